package tests

import (
	"math"
	"testing"

	"loop.example/g00038/impl"
)

func withTimer(timer impl.Timer) impl.Clock {
	c := sampleClock()
	c.Timers[3] = timer
	return c
}

func manyTimers(count int) []impl.Timer {
	timers := make([]impl.Timer, count)
	for at := range timers {
		timers[at].Policy = 1
	}
	return timers
}

func rightClocks() map[string]impl.Clock {
	return map[string]impl.Clock{
		"the sample":           sampleClock(),
		"the least":            {Den: 1},
		"the most":             {Host: mostTime, Guest: mostTime, Num: 1000, Den: 1000, Part: 999, Frozen: true},
		"Num above Den":        {Num: 1000, Den: 1},
		"Num 0, Den 1000":      {Den: 1000},
		"Part of Den - 1":      {Num: 9, Den: 7, Part: 6},
		"Guest ahead of Host":  {Guest: 5, Den: 1},
		"no timers":            {Den: 1, Timers: []impl.Timer{}},
		"MaxTimers":            {Den: 1, Timers: manyTimers(20)},
		"the least timer":      withTimer(impl.Timer{Policy: 1}),
		"the most of a timer":  withTimer(impl.Timer{Due: 2 * mostTime, Period: mostTime, Policy: 3}),
		"a timer long due":     withTimer(impl.Timer{Due: 0, Period: 1, Policy: 2}),
		"Due 2 * MaxTime":      withTimer(impl.Timer{Due: 2 * mostTime, Policy: 2}),
		"Period MaxTime":       withTimer(impl.Timer{Period: mostTime, Policy: 1}),
		"two timers are alike": {Den: 1, Timers: []impl.Timer{{Due: 4, Policy: 1}, {Due: 4, Policy: 1}}},
	}
}

// wrongClocks have one fault each.
func wrongClocks() map[string]impl.Clock {
	least, most := int64(math.MinInt64), int64(math.MaxInt64)
	last := impl.Clock{Den: 1, Timers: manyTimers(20)}
	last.Timers[19].Policy = 0
	return map[string]impl.Clock{
		"nothing":                 {},
		"Host -1":                 {Host: -1, Den: 1},
		"Host above":              {Host: mostTime + 1, Den: 1},
		"the least Host":          {Host: least, Den: 1},
		"the greatest Host":       {Host: most, Den: 1},
		"Guest -1":                {Guest: -1, Den: 1},
		"Guest above":             {Guest: mostTime + 1, Den: 1},
		"the least Guest":         {Guest: least, Den: 1},
		"the greatest Guest":      {Guest: most, Den: 1},
		"Num -1":                  {Num: -1, Den: 1},
		"Num 1001":                {Num: 1001, Den: 1},
		"the least Num":           {Num: least, Den: 1},
		"Den 0":                   {Num: 1},
		"Den -1":                  {Den: -1},
		"Den -1, Part -2":         {Den: -1, Part: -2},
		"Den 1001":                {Den: 1001},
		"the greatest Den":        {Den: most},
		"Part -1":                 {Den: 5, Part: -1},
		"Part of Den":             {Den: 5, Part: 5},
		"Part of Den 1":           {Den: 1, Part: 1},
		"Part of Den 1000":        {Den: 1000, Part: 1000},
		"the greatest Part":       {Den: 5, Part: most},
		"MaxTimers and one":       {Den: 1, Timers: manyTimers(21)},
		"very many timers":        {Den: 1, Timers: manyTimers(2000)},
		"the last of MaxTimers":   last,
		"Due -1":                  withTimer(impl.Timer{Due: -1, Policy: 1}),
		"Due above":               withTimer(impl.Timer{Due: 2*mostTime + 1, Policy: 1}),
		"the least Due":           withTimer(impl.Timer{Due: least, Policy: 1}),
		"the greatest Due":        withTimer(impl.Timer{Due: most, Policy: 1}),
		"Period -1":               withTimer(impl.Timer{Period: -1, Policy: 1}),
		"Period above":            withTimer(impl.Timer{Period: mostTime + 1, Policy: 1}),
		"the greatest Period":     withTimer(impl.Timer{Period: most, Policy: 1}),
		"Policy 0":                withTimer(impl.Timer{Due: 5, Period: 5}),
		"Policy 4":                withTimer(impl.Timer{Policy: 4}),
		"Policy -1":               withTimer(impl.Timer{Policy: -1}),
		"the greatest Policy":     withTimer(impl.Timer{Policy: most}),
		"frozen with a fault":     {Host: -1, Den: 1, Frozen: true},
		"a timer's, all else 0":   {Den: 1, Timers: make([]impl.Timer, 1)},
		"the first timer's fault": {Den: 1, Timers: []impl.Timer{{Policy: 4}, {Policy: 1}}},
	}
}

func TestClockFault(t *testing.T) {
	for what, c := range rightClocks() {
		checkNumber(t, what, impl.ClockFault(c), impl.OK)
		checkClockRun(t, what, c, []impl.ClockOp{advanceOp(c.Host), freezeOp(), advanceOp(mostTime), thawOp(), setOp(7), rateOp(1, 1), disarmOp(0)})
	}
	for policy := int64(0); policy <= 4; policy++ {
		want := int64(impl.OK)
		if policy == 0 || policy == 4 {
			want = impl.ErrForm
		}
		checkNumber(t, "Policies", impl.ClockFault(withTimer(impl.Timer{Due: 1, Period: 1, Policy: policy})), want)
	}
	for what, c := range wrongClocks() {
		checkNumber(t, what, impl.ClockFault(c), impl.ErrForm)
		for _, ops := range [][]impl.ClockOp{nil, {advanceOp(mostTime)}, make([]impl.ClockOp, 1000)} {
			checkAlike(t, what, checkClockRun(t, what, c, ops), impl.ClockRun{Code: impl.ErrForm})
		}
		checkAlike(t, what+", many ops", impl.RunClock(c, make([]impl.ClockOp, 1001)), impl.ClockRun{Code: impl.ErrSize})
	}
}

func TestClockFaultChangesNothing(t *testing.T) {
	c := sampleClock()
	impl.ClockFault(c)
	checkAlike(t, "the clock handed in", c, sampleClock())
}

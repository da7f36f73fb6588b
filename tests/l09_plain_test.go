package tests

import (
	"fmt"
	"math"
	"math/rand"
	"slices"
	"sort"
	"testing"

	"loop.example/g00038/impl"
)

const mostTime = 1 << 40

func advanceOp(host int64) impl.ClockOp { return impl.ClockOp{Kind: impl.ClAdvance, Time: host} }
func setOp(guest int64) impl.ClockOp    { return impl.ClockOp{Kind: impl.ClSet, Time: guest} }
func freezeOp() impl.ClockOp            { return impl.ClockOp{Kind: impl.ClFreeze} }
func thawOp() impl.ClockOp              { return impl.ClockOp{Kind: impl.ClThaw} }
func disarmOp(number int64) impl.ClockOp {
	return impl.ClockOp{Kind: impl.ClDisarm, Num: number}
}

func rateOp(num int64, den int64) impl.ClockOp {
	return impl.ClockOp{Kind: impl.ClRate, Num: num, Den: den}
}

func armOp(due int64, period int64, policy int64) impl.ClockOp {
	return impl.ClockOp{Kind: impl.ClArm, Timer: impl.Timer{Due: due, Period: period, Policy: policy}}
}

func copyClock(c impl.Clock) impl.Clock {
	c.Timers = slices.Clone(c.Timers)
	return c
}

// times are answers of ops that were done and tell no ticks, each with the guest's time.
func times(guests ...int64) []impl.ClockOut {
	var outs []impl.ClockOut
	for _, guest := range guests {
		outs = append(outs, impl.ClockOut{Guest: guest})
	}
	return outs
}

func plainTimerRight(t impl.Timer) bool {
	return among(t.Due, 0, 2*mostTime) && among(t.Period, 0, mostTime) && among(t.Policy, 1, 3)
}

// plainClockRight is what chapter 10 says of ClockFault, said once more.
func plainClockRight(c impl.Clock) bool {
	right := among(c.Host, 0, mostTime) && among(c.Guest, 0, mostTime) && among(c.Num, 0, 1000) && among(c.Den, 1, 1000)
	right = right && among(c.Part, 0, c.Den-1) && len(c.Timers) <= 20
	for _, timer := range c.Timers {
		right = right && plainTimerRight(timer)
	}
	return right
}

// plainTick looks for the first Due behind the guest's time in place of counting.
func plainTick(timer *impl.Timer, guest int64) (ticks int64, gone bool) {
	if timer.Due > guest {
		return 0, false
	}
	if timer.Period == 0 {
		return 1, true
	}
	was := *timer
	come := sort.Search(mostTime+1, func(n int) bool { return n > 0 && was.Period > (guest-was.Due)/int64(n) })
	timer.Due += int64(come) * timer.Period
	switch timer.Policy {
	case 1:
		return min(int64(come), 1000), false
	case 3:
		timer.Due = guest + timer.Period
	}
	return 1, false
}

// plainAdvance counts the guest's time in parts of which Den make a whole.
func plainAdvance(c *impl.Clock, host int64) (ticks []int64, code int64) {
	if !among(host, c.Host, mostTime) {
		return nil, impl.ErrForm
	}
	parts := c.Guest*c.Den + c.Part
	if !c.Frozen {
		parts += c.Num * (host - c.Host)
	}
	if parts/c.Den > mostTime {
		return nil, impl.ErrLimit
	}
	c.Host, c.Guest, c.Part = host, parts/c.Den, parts%c.Den
	was := c.Timers
	c.Timers = nil
	for _, timer := range was {
		ticking, gone := plainTick(&timer, c.Guest)
		ticks = append(ticks, ticking)
		if !gone {
			c.Timers = append(c.Timers, timer)
		}
	}
	return ticks, impl.OK
}

func plainDisarm(c *impl.Clock, number int64) int64 {
	was := c.Timers
	c.Timers = nil
	for at, timer := range was {
		if int64(at) != number {
			c.Timers = append(c.Timers, timer)
		}
	}
	if len(c.Timers) == len(was) {
		return impl.ErrNone
	}
	return impl.OK
}

func plainOther(c *impl.Clock, op impl.ClockOp) int64 {
	switch op.Kind {
	case 2, 3:
		if c.Frozen == (op.Kind == 2) {
			return impl.ErrState
		}
		c.Frozen = !c.Frozen
	case 4:
		if !among(op.Num, 0, 1000) || !among(op.Den, 1, 1000) {
			return impl.ErrForm
		}
		c.Num, c.Den, c.Part = op.Num, op.Den, 0
	case 5:
		if !among(op.Time, 0, mostTime) {
			return impl.ErrForm
		}
		c.Guest = op.Time
	case 6:
		if !plainTimerRight(op.Timer) {
			return impl.ErrForm
		}
		if len(c.Timers) == 20 {
			return impl.ErrCount
		}
		c.Timers = append(slices.Clone(c.Timers), op.Timer)
	case 7:
		return plainDisarm(c, op.Num)
	default:
		return impl.ErrForm
	}
	return impl.OK
}

// plainClockRun is what chapter 10 says of RunClock, said once more.
func plainClockRun(c impl.Clock, ops []impl.ClockOp) impl.ClockRun {
	if len(ops) > 1000 {
		return impl.ClockRun{Code: impl.ErrSize}
	}
	if !plainClockRight(c) {
		return impl.ClockRun{Code: impl.ErrForm}
	}
	run := impl.ClockRun{Clock: copyClock(c)}
	for _, op := range ops {
		var out impl.ClockOut
		if op.Kind == 1 {
			out.Ticks, out.Code = plainAdvance(&run.Clock, op.Time)
		} else {
			out.Code = plainOther(&run.Clock, op)
		}
		out.Guest = run.Clock.Guest
		run.Outs = append(run.Outs, out)
	}
	return run
}

// checkClockRun holds a run against the plain one, and what was handed in against what it was.
func checkClockRun(t *testing.T, what string, c impl.Clock, ops []impl.ClockOp) impl.ClockRun {
	t.Helper()
	clock, asked := copyClock(c), slices.Clone(ops)
	got := impl.RunClock(c, ops)
	checkAlike(t, what, got, plainClockRun(clock, asked))
	checkAlike(t, what+": the clock handed in", c, clock)
	checkAlike(t, what+": the ops handed in", ops, asked)
	return got
}

// checkTimes runs ops that are to have these answers, and answers the clock behind them.
func checkTimes(t *testing.T, what string, c impl.Clock, ops []impl.ClockOp, outs []impl.ClockOut) impl.Clock {
	t.Helper()
	got := checkClockRun(t, what, c, ops)
	checkAlike(t, what+": Code and Outs", impl.ClockRun{Code: got.Code, Outs: got.Outs}, impl.ClockRun{Outs: outs})
	return got.Clock
}

func sampleClock() impl.Clock {
	return impl.Clock{Host: 1000, Guest: 500, Num: 3, Den: 4, Part: 1, Timers: []impl.Timer{
		{Due: 503, Policy: impl.PolicyAll},
		{Due: 501, Period: 2, Policy: impl.PolicyAll},
		{Due: 502, Period: 5, Policy: impl.PolicyOne},
		{Due: 503, Period: 7, Policy: impl.PolicyLate},
	}}
}

// edgeTime is a time at an end of what there may be, near one that is told, or anywhere.
func edgeTime(rng *rand.Rand, near int64, most int64) int64 {
	switch rng.Intn(6) {
	case 0:
		return rng.Int63n(3)
	case 1:
		return most - rng.Int63n(3)
	case 2:
		return rng.Int63n(most + 1)
	}
	return min(most, near+rng.Int63n(200))
}

func randomTimer(rng *rand.Rand, guest int64) impl.Timer {
	due := edgeTime(rng, max(0, guest-100), 2*mostTime)
	period := edgeTime(rng, rng.Int63n(2), mostTime)
	return impl.Timer{Due: due, Period: period, Policy: 1 + rng.Int63n(3)}
}

func randomClock(rng *rand.Rand, timers int) impl.Clock {
	c := impl.Clock{Host: edgeTime(rng, 1000, mostTime), Guest: edgeTime(rng, 2000, mostTime), Num: rng.Int63n(1001), Den: 1 + rng.Int63n(1000), Frozen: rng.Intn(4) == 0}
	if rng.Intn(2) == 0 {
		c.Num, c.Den = rng.Int63n(4), 1+rng.Int63n(4)
	}
	c.Part = rng.Int63n(c.Den)
	for range timers {
		c.Timers = append(c.Timers, randomTimer(rng, c.Guest))
	}
	return c
}

// wrongOp has a fault, or a kind that is none.
func wrongOp(rng *rand.Rand, host int64) impl.ClockOp {
	return []impl.ClockOp{
		advanceOp(host - 1), advanceOp(mostTime + 1), advanceOp(math.MinInt64), setOp(-1), setOp(mostTime + 1), rateOp(-1, 1), rateOp(1001, 1), rateOp(1, 0), rateOp(1, 1001),
		armOp(-1, 1, 1), armOp(2*mostTime+1, 1, 1), armOp(1, -1, 1), armOp(1, mostTime+1, 1), armOp(1, 1, 0), armOp(1, 1, 4),
		disarmOp(-1), disarmOp(20), {Kind: 0}, {Kind: 8}, {Kind: -1},
	}[rng.Intn(20)]
}

func randomClockOp(rng *rand.Rand, c impl.Clock) impl.ClockOp {
	switch rng.Intn(12) {
	case 0:
		return freezeOp()
	case 1:
		return thawOp()
	case 2:
		return rateOp(rng.Int63n(6), 1+rng.Int63n(6))
	case 3:
		return setOp(edgeTime(rng, c.Guest, mostTime))
	case 4, 5:
		timer := randomTimer(rng, c.Guest)
		return armOp(timer.Due, timer.Period, timer.Policy)
	case 6:
		return disarmOp(rng.Int63n(8))
	case 7:
		return wrongOp(rng, c.Host)
	case 8:
		return advanceOp(edgeTime(rng, c.Host, mostTime))
	}
	return advanceOp(c.Host + rng.Int63n(200))
}

// randomClockOps are ops each of which looks at the clock that those ahead of it leave.
func randomClockOps(rng *rand.Rand, c impl.Clock, count int) []impl.ClockOp {
	var ops []impl.ClockOp
	for range count {
		op := randomClockOp(rng, c)
		c = plainClockRun(c, []impl.ClockOp{op}).Clock
		ops = append(ops, op)
	}
	return ops
}

func TestRunClockAgainstThePlainOne(t *testing.T) {
	rng := rand.New(rand.NewSource(91))
	kinds := map[[2]int64]int{}
	ticks := map[int64]int{}
	for range 1500 {
		c := randomClock(rng, rng.Intn(21))
		ops := randomClockOps(rng, c, 30)
		got := checkClockRun(t, fmt.Sprintf("%+v, %+v", c, ops), c, ops)
		checkNumbers(t, "Code, ClockFault", []int64{got.Code, impl.ClockFault(got.Clock)}, []int64{impl.OK, impl.OK})
		if t.Failed() {
			return
		}
		for at, out := range got.Outs {
			kinds[[2]int64{ops[at].Kind, out.Code}]++
			for _, ticking := range out.Ticks {
				ticks[min(ticking, 2)]++
				ticks[-ticking/1000]++
			}
		}
	}
	// Ops that are all refused, or never, would tell nothing.
	for kind, codes := range map[int64][]int64{0: {1}, 1: {0, 1, 8}, 2: {0, 6}, 3: {0, 6}, 4: {0, 1}, 5: {0, 1}, 6: {0, 1, 4}, 7: {0, 5}, 8: {1}} {
		for _, code := range codes {
			if kinds[[2]int64{kind, code}] < 10 {
				t.Errorf("kind %d answers %d but %d times", kind, code, kinds[[2]int64{kind, code}])
			}
		}
	}
	for _, ticking := range []int64{0, 1, 2, -1} {
		if ticks[ticking] < 100 {
			t.Errorf("ticks %d are told but %d times", ticking, ticks[ticking])
		}
	}
}

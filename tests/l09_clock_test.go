package tests

import (
	"fmt"
	"math"
	"math/rand"
	"slices"
	"testing"

	"loop.example/g00038/impl"
)

func TestConstantsOfClocks(t *testing.T) {
	kinds := []int64{impl.ClAdvance, impl.ClFreeze, impl.ClThaw, impl.ClRate, impl.ClSet, impl.ClArm, impl.ClDisarm}
	checkNumbers(t, "kinds", kinds, []int64{1, 2, 3, 4, 5, 6, 7})
	checkNumbers(t, "policies", []int64{impl.PolicyAll, impl.PolicyOne, impl.PolicyLate}, []int64{1, 2, 3})
	checkNumbers(t, "bounds", []int64{impl.MaxTime, impl.MaxTimers}, []int64{1099511627776, 20})
}

func late(code int64, guest int64) impl.ClockOut { return impl.ClockOut{Code: code, Guest: guest} }

func ticked(guest int64, ticks ...int64) impl.ClockOut {
	return impl.ClockOut{Guest: guest, Ticks: ticks}
}

func TestAdvance(t *testing.T) {
	c := impl.Clock{Host: 100, Guest: 7, Num: 2, Den: 5, Part: 3}
	c = checkTimes(t, "to Host itself", c, []impl.ClockOp{advanceOp(100), advanceOp(100)}, times(7, 7))
	checkAlike(t, "to Host itself", c, impl.Clock{Host: 100, Guest: 7, Num: 2, Den: 5, Part: 3})
	c = checkTimes(t, "a Part that makes a whole", c, []impl.ClockOp{advanceOp(101)}, times(8))
	checkAlike(t, "a Part that makes a whole", c, impl.Clock{Host: 101, Guest: 8, Num: 2, Den: 5})
	c = checkTimes(t, "one by one", c, []impl.ClockOp{advanceOp(102), advanceOp(103), advanceOp(104), advanceOp(105), advanceOp(106)}, times(8, 8, 9, 9, 10))
	checkAlike(t, "one by one", c, impl.Clock{Host: 106, Guest: 10, Num: 2, Den: 5})
	c = checkTimes(t, "by many", c, []impl.ClockOp{advanceOp(1119)}, times(415))
	checkAlike(t, "by many", c, impl.Clock{Host: 1119, Guest: 415, Num: 2, Den: 5, Part: 1})
}

func TestAdvanceToTheEnds(t *testing.T) {
	c := impl.Clock{Host: 100, Guest: 7, Num: 1, Den: 1}
	for _, host := range []int64{99, 0, -1, mostTime + 1, 2 * mostTime, math.MinInt64, math.MaxInt64} {
		for _, frozen := range []bool{false, true} {
			c.Frozen = frozen
			got := checkTimes(t, fmt.Sprintf("to %d", host), c, []impl.ClockOp{advanceOp(host)}, []impl.ClockOut{late(impl.ErrForm, 7)})
			checkAlike(t, "nothing is done", got, c)
		}
	}
	c.Frozen = false
	got := checkTimes(t, "to MaxTime", c, []impl.ClockOp{advanceOp(mostTime), advanceOp(mostTime), advanceOp(mostTime - 1)}, []impl.ClockOut{{Guest: mostTime - 93}, {Guest: mostTime - 93}, late(impl.ErrForm, mostTime-93)})
	checkAlike(t, "to MaxTime", got, impl.Clock{Host: mostTime, Guest: mostTime - 93, Num: 1, Den: 1})
	got = checkTimes(t, "from 0", impl.Clock{Num: 1, Den: 1}, []impl.ClockOp{advanceOp(mostTime)}, times(mostTime))
	checkAlike(t, "from 0", got, impl.Clock{Host: mostTime, Guest: mostTime, Num: 1, Den: 1})
	checkTimes(t, "far too fast", impl.Clock{Num: 1000, Den: 1}, []impl.ClockOp{advanceOp(mostTime)}, []impl.ClockOut{late(impl.ErrLimit, 0)})
	checkTimes(t, "as fast as may be", impl.Clock{Num: 1000, Den: 1000, Part: 999}, []impl.ClockOp{advanceOp(mostTime)}, times(mostTime))
	checkTimes(t, "as slow as may be", impl.Clock{Num: 1, Den: 1000, Part: 223}, []impl.ClockOp{advanceOp(mostTime)}, times(1099511627))
	checkTimes(t, "slow, a whole", impl.Clock{Num: 1, Den: 1000, Part: 224}, []impl.ClockOp{advanceOp(mostTime)}, times(1099511628))
}

// Where the guest's time would be above MaxTime, neither Host nor Part nor a timer changes.
func TestAdvancePastTheGuestsEnd(t *testing.T) {
	c := impl.Clock{Host: 10, Guest: mostTime - 2, Num: 3, Den: 2, Part: 1, Timers: []impl.Timer{{Due: 1, Policy: 1}, {Due: 2, Period: 3, Policy: 2}}}
	got := checkTimes(t, "above", c, []impl.ClockOp{advanceOp(12), advanceOp(mostTime)}, []impl.ClockOut{late(impl.ErrLimit, mostTime-2), late(impl.ErrLimit, mostTime-2)})
	checkAlike(t, "nothing is done", got, c)
	got = checkTimes(t, "just to it", c, []impl.ClockOp{advanceOp(11)}, []impl.ClockOut{ticked(mostTime, 1, 1)})
	checkAlike(t, "just to it", got, impl.Clock{Host: 11, Guest: mostTime, Num: 3, Den: 2, Timers: []impl.Timer{{Due: mostTime + 1, Period: 3, Policy: 2}}})
	got = checkTimes(t, "the rest of a whole", got, []impl.ClockOp{rateOp(1, 2), advanceOp(12), advanceOp(13)}, []impl.ClockOut{{Guest: mostTime}, ticked(mostTime, 0), late(impl.ErrLimit, mostTime)})
	checkNumbers(t, "Host and Part", []int64{got.Host, got.Part}, []int64{12, 1})
	got = checkTimes(t, "frozen", got, []impl.ClockOp{freezeOp(), advanceOp(mostTime), thawOp()}, []impl.ClockOut{{Guest: mostTime}, ticked(mostTime, 0), {Guest: mostTime}})
	checkNumbers(t, "frozen: Host and Part", []int64{got.Host, got.Part}, []int64{mostTime, 1})
	checkTimes(t, "the form comes first", c, []impl.ClockOp{advanceOp(mostTime + 1)}, []impl.ClockOut{late(impl.ErrForm, mostTime-2)})
}

func TestARateOfNothing(t *testing.T) {
	c := impl.Clock{Host: 3, Guest: 9, Num: 0, Den: 4, Part: 3}
	got := checkTimes(t, "Num 0", c, []impl.ClockOp{advanceOp(1000), advanceOp(mostTime)}, times(9, 9))
	checkAlike(t, "Num 0", got, impl.Clock{Host: mostTime, Guest: 9, Den: 4, Part: 3})
}

func TestFreezeAndThaw(t *testing.T) {
	c := impl.Clock{Num: 3, Den: 2, Part: 1}
	ops := []impl.ClockOp{thawOp(), freezeOp(), advanceOp(10), freezeOp(), advanceOp(20), thawOp(), thawOp(), advanceOp(21), advanceOp(22)}
	outs := []impl.ClockOut{late(impl.ErrState, 0), {}, {}, late(impl.ErrState, 0), {}, {}, late(impl.ErrState, 0), {Guest: 2}, {Guest: 3}}
	got := checkTimes(t, "frozen and not", c, ops, outs)
	checkAlike(t, "frozen and not", got, impl.Clock{Host: 22, Guest: 3, Num: 3, Den: 2, Part: 1})
	got = checkTimes(t, "frozen", got, []impl.ClockOp{freezeOp(), freezeOp()}, []impl.ClockOut{{Guest: 3}, late(impl.ErrState, 3)})
	checkAlike(t, "frozen", got, impl.Clock{Host: 22, Guest: 3, Num: 3, Den: 2, Part: 1, Frozen: true})
}

// A clock that is frozen may be set, and its timers that are due tick as others do.
func TestTimersOfAFrozenClock(t *testing.T) {
	c := impl.Clock{Num: 1, Den: 1, Frozen: true, Timers: []impl.Timer{{Due: 0, Policy: 2}, {Due: 1, Period: 1, Policy: 1}}}
	ops := []impl.ClockOp{advanceOp(0), setOp(3), advanceOp(5), advanceOp(6), armOp(3, 0, 1), advanceOp(6), rateOp(2, 3), advanceOp(7)}
	outs := []impl.ClockOut{ticked(0, 1, 0), {Guest: 3}, ticked(3, 3), ticked(3, 0), {Guest: 3}, ticked(3, 0, 1), {Guest: 3}, ticked(3, 0)}
	got := checkTimes(t, "frozen", c, ops, outs)
	checkAlike(t, "frozen", got, impl.Clock{Host: 7, Guest: 3, Num: 2, Den: 3, Frozen: true, Timers: []impl.Timer{{Due: 4, Period: 1, Policy: 1}}})
}

func TestTimersWithoutAPeriod(t *testing.T) {
	for policy := int64(1); policy <= 3; policy++ {
		what := fmt.Sprintf("Policy %d", policy)
		for due, want := range map[int64]int64{0: 1, 1: 1, 49: 1, 50: 1, 51: 0, mostTime: 0, 2 * mostTime: 0} {
			c := impl.Clock{Host: 10, Guest: 10, Num: 1, Den: 1, Timers: []impl.Timer{{Due: due, Policy: policy}}}
			got := checkTimes(t, what, c, []impl.ClockOp{advanceOp(50)}, []impl.ClockOut{ticked(50, want)})
			checkNumber(t, what+": timers left", int64(len(got.Timers)), 1-want)
		}
	}
	c := impl.Clock{Num: 1, Den: 1, Timers: []impl.Timer{{Due: 3, Policy: 1}, {Due: 9, Policy: 2}, {Due: 4, Policy: 3}, {Due: 4, Policy: 1}, {Due: 8, Policy: 1}, {Due: 5, Policy: 2}}}
	got := checkTimes(t, "several", c, []impl.ClockOp{advanceOp(2), advanceOp(5), advanceOp(8), advanceOp(9), advanceOp(10)}, []impl.ClockOut{ticked(2, 0, 0, 0, 0, 0, 0), ticked(5, 1, 0, 1, 1, 0, 1), ticked(8, 0, 1), ticked(9, 1), ticked(10)})
	checkNumber(t, "all are gone", int64(len(got.Timers)), 0)
	c.Timers = manyTimers(20)
	got = checkTimes(t, "MaxTimers at once", c, []impl.ClockOp{advanceOp(0), advanceOp(1)}, []impl.ClockOut{ticked(0, 1, 1, 1, 1, 1, 1, 1, 1, 1, 1, 1, 1, 1, 1, 1, 1, 1, 1, 1, 1), ticked(1)})
	checkNumber(t, "MaxTimers at once", int64(len(got.Timers)), 0)
}

// The guest's time is 100 behind the op; each row is a Due and a Period, with what each policy makes of it.
func TestPolicies(t *testing.T) {
	for _, row := range []struct{ due, period, all, dueAll, dueLate int64 }{
		{100, 1, 1, 101, 101},
		{100, 7, 1, 107, 107},
		{99, 1, 2, 101, 101},
		{99, 7, 1, 106, 107},
		{98, 2, 2, 102, 102},
		{94, 7, 1, 101, 107},
		{93, 7, 2, 107, 107},
		{92, 7, 2, 106, 107},
		{2, 7, 15, 107, 107},
		{3, 7, 14, 101, 107},
		{0, 1, 101, 101, 101},
		{0, 100, 2, 200, 200},
		{0, 101, 1, 101, 201},
		{100, mostTime, 1, mostTime + 100, mostTime + 100},
		{0, mostTime, 1, mostTime, mostTime + 100},
	} {
		c := impl.Clock{Host: 40, Guest: 40, Num: 1, Den: 1}
		for policy := int64(1); policy <= 3; policy++ {
			c.Timers = append(c.Timers, impl.Timer{Due: row.due, Period: row.period, Policy: policy})
		}
		what := fmt.Sprintf("%+v", row)
		got := checkTimes(t, what, c, []impl.ClockOp{advanceOp(100), advanceOp(100)}, []impl.ClockOut{ticked(100, row.all, 1, 1), ticked(100, 0, 0, 0)})
		checkNumbers(t, what, []int64{got.Timers[0].Due, got.Timers[1].Due, got.Timers[2].Due}, []int64{row.dueAll, row.dueAll, row.dueLate})
	}
	c := impl.Clock{Host: 40, Guest: 40, Num: 1, Den: 1, Timers: []impl.Timer{{Due: 101, Period: 3, Policy: 1}, {Due: 101, Period: 3, Policy: 2}, {Due: 101, Period: 3, Policy: 3}}}
	got := checkTimes(t, "not due yet", c, []impl.ClockOp{advanceOp(100)}, []impl.ClockOut{ticked(100, 0, 0, 0)})
	checkAlike(t, "not due yet", got.Timers, c.Timers)
}

// As often as its Dues have come a timer ticks with PolicyAll, but it tells no more than 1000.
func TestTicksThatAreLeftOut(t *testing.T) {
	for come, want := range map[int64]int64{1: 1, 2: 2, 999: 999, 1000: 1000, 1001: 1000, 1002: 1000, 123456: 1000} {
		for _, period := range []int64{1, 3, 1000000} {
			for _, more := range []int64{0, period - 1} {
				due := int64(5000)
				guest := due + (come-1)*period + more
				c := impl.Clock{Num: 1, Den: 1, Timers: []impl.Timer{{Due: due, Period: period, Policy: 1}}}
				got := checkTimes(t, fmt.Sprintf("%d Dues", come), c, []impl.ClockOp{advanceOp(guest), advanceOp(guest)}, []impl.ClockOut{ticked(guest, want), ticked(guest, 0)})
				checkNumber(t, fmt.Sprintf("%d Dues: Due", come), got.Timers[0].Due, due+come*period)
			}
		}
	}
	c := impl.Clock{Num: 1, Den: 1, Timers: []impl.Timer{{Period: 1, Policy: 1}, {Period: 2, Policy: 1}, {Due: mostTime, Period: mostTime, Policy: 1}, {Period: mostTime, Policy: 1}}}
	got := checkTimes(t, "very many", c, []impl.ClockOp{advanceOp(mostTime)}, []impl.ClockOut{ticked(mostTime, 1000, 1000, 1, 2)})
	checkAlike(t, "very many", got.Timers, []impl.Timer{{Due: mostTime + 1, Period: 1, Policy: 1}, {Due: mostTime + 2, Period: 2, Policy: 1}, {Due: 2 * mostTime, Period: mostTime, Policy: 1}, {Due: 2 * mostTime, Period: mostTime, Policy: 1}})
}

// No Due goes past 2 * MaxTime, and the furthest one stays a right one.
func TestDuesNearTheirEnd(t *testing.T) {
	for policy := int64(1); policy <= 3; policy++ {
		c := impl.Clock{Guest: mostTime, Num: 0, Den: 1, Timers: []impl.Timer{{Due: mostTime, Period: mostTime, Policy: policy}, {Due: 2 * mostTime, Period: mostTime, Policy: policy}, {Due: 2*mostTime - 1, Policy: policy}}}
		what := fmt.Sprintf("Policy %d", policy)
		got := checkTimes(t, what, c, []impl.ClockOp{advanceOp(1), advanceOp(mostTime)}, []impl.ClockOut{ticked(mostTime, 1, 0, 0), ticked(mostTime, 0, 0, 0)})
		checkNumbers(t, what, []int64{got.Timers[0].Due, got.Timers[1].Due, got.Timers[2].Due, impl.ClockFault(got)}, []int64{2 * mostTime, 2 * mostTime, 2*mostTime - 1, impl.OK})
	}
}

func TestRate(t *testing.T) {
	c := impl.Clock{Host: 5, Guest: 6, Num: 3, Den: 7, Part: 6, Timers: []impl.Timer{{Due: 2, Period: 9, Policy: 1}}}
	got := checkTimes(t, "a Part", c, []impl.ClockOp{rateOp(3, 7)}, times(6))
	checkAlike(t, "a Part", got, impl.Clock{Host: 5, Guest: 6, Num: 3, Den: 7, Timers: c.Timers})
	for _, rate := range [][2]int64{{0, 1}, {0, 1000}, {1000, 1}, {1000, 1000}, {1, 1}} {
		got = checkTimes(t, "a rate", c, []impl.ClockOp{rateOp(rate[0], rate[1])}, times(6))
		checkNumbers(t, "a rate", []int64{got.Num, got.Den, got.Part}, []int64{rate[0], rate[1], 0})
	}
	for _, rate := range [][2]int64{{-1, 1}, {1001, 1}, {1, 0}, {1, -1}, {1, 1001}, {0, 0}, {math.MinInt64, 1}, {math.MaxInt64, 1}, {1, math.MinInt64}, {1, math.MaxInt64}} {
		got = checkTimes(t, fmt.Sprintf("rate %v", rate), c, []impl.ClockOp{rateOp(rate[0], rate[1])}, []impl.ClockOut{late(impl.ErrForm, 6)})
		checkAlike(t, "nothing is done", got, c)
	}
}

func TestSet(t *testing.T) {
	c := sampleClock()
	for _, guest := range []int64{0, 1, 499, 500, 501, 600, mostTime - 1, mostTime} {
		want := sampleClock()
		want.Guest = guest
		got := checkTimes(t, fmt.Sprintf("set to %d", guest), c, []impl.ClockOp{setOp(guest)}, times(guest))
		checkAlike(t, fmt.Sprintf("set to %d", guest), got, want)
	}
	for _, guest := range []int64{-1, mostTime + 1, math.MinInt64, math.MaxInt64} {
		got := checkTimes(t, fmt.Sprintf("set to %d", guest), c, []impl.ClockOp{setOp(guest)}, []impl.ClockOut{late(impl.ErrForm, 500)})
		checkAlike(t, "nothing is done", got, c)
	}
	got := checkTimes(t, "ahead and back", c, []impl.ClockOp{setOp(509), advanceOp(1000), setOp(3), advanceOp(1001)}, []impl.ClockOut{{Guest: 509}, ticked(509, 1, 5, 1, 1), {Guest: 3}, ticked(4, 0, 0, 0)})
	checkAlike(t, "ahead and back", got.Timers, []impl.Timer{{Due: 511, Period: 2, Policy: 1}, {Due: 512, Period: 5, Policy: 2}, {Due: 516, Period: 7, Policy: 3}})
}

func TestArm(t *testing.T) {
	c := impl.Clock{Guest: 9, Num: 1, Den: 1, Timers: manyTimers(19)}
	got := checkTimes(t, "up to MaxTimers", c, []impl.ClockOp{armOp(5, 2, 3), armOp(6, 2, 3), disarmOp(0), armOp(7, 2, 2), armOp(8, 0, 1)}, []impl.ClockOut{{Guest: 9}, late(impl.ErrCount, 9), {Guest: 9}, {Guest: 9}, late(impl.ErrCount, 9)})
	checkAlike(t, "behind all", got.Timers[17:], []impl.Timer{{Policy: 1}, {Due: 5, Period: 2, Policy: 3}, {Due: 7, Period: 2, Policy: 2}})
	for _, op := range []impl.ClockOp{
		armOp(-1, 1, 1), armOp(2*mostTime+1, 1, 1), armOp(1, -1, 1), armOp(1, mostTime+1, 1), armOp(1, 1, 0), armOp(1, 1, 4), armOp(1, 1, -1),
		armOp(math.MinInt64, 1, 1), armOp(math.MaxInt64, 1, 1), armOp(1, math.MinInt64, 1), armOp(1, math.MaxInt64, 1), armOp(1, 1, math.MaxInt64), {Kind: impl.ClArm},
	} {
		for _, clock := range []impl.Clock{c, got, sampleClock()} {
			behind := checkTimes(t, fmt.Sprintf("%+v", op), clock, []impl.ClockOp{op}, []impl.ClockOut{late(impl.ErrForm, clock.Guest)})
			checkAlike(t, "nothing is done", behind, clock)
		}
	}
	for _, op := range []impl.ClockOp{armOp(0, 0, 1), armOp(2*mostTime, mostTime, 3), armOp(9, 0, 2)} {
		got = checkTimes(t, fmt.Sprintf("%+v", op), sampleClock(), []impl.ClockOp{op}, times(500))
		checkAlike(t, fmt.Sprintf("%+v", op), got.Timers, append(sampleClock().Timers, op.Timer))
	}
	checkTimes(t, "due as it comes", impl.Clock{Guest: 9, Num: 1, Den: 1}, []impl.ClockOp{armOp(3, 2, 1), advanceOp(0)}, []impl.ClockOut{{Guest: 9}, ticked(9, 4)})
}

func TestDisarm(t *testing.T) {
	timers := sampleClock().Timers
	for number := range int64(4) {
		got := checkTimes(t, fmt.Sprintf("number %d", number), sampleClock(), []impl.ClockOp{disarmOp(number)}, times(500))
		checkAlike(t, fmt.Sprintf("number %d", number), got.Timers, slices.Delete(slices.Clone(timers), int(number), int(number)+1))
	}
	for _, number := range []int64{-1, 4, 20, math.MinInt64, math.MaxInt64} {
		got := checkTimes(t, fmt.Sprintf("number %d", number), sampleClock(), []impl.ClockOp{disarmOp(number)}, []impl.ClockOut{late(impl.ErrNone, 500)})
		checkAlike(t, "nothing is done", got, sampleClock())
	}
	got := checkTimes(t, "to none", sampleClock(), []impl.ClockOp{disarmOp(3), disarmOp(3), disarmOp(0), disarmOp(0), disarmOp(0), disarmOp(0)}, []impl.ClockOut{{Guest: 500}, late(impl.ErrNone, 500), {Guest: 500}, {Guest: 500}, {Guest: 500}, late(impl.ErrNone, 500)})
	checkNumber(t, "to none", int64(len(got.Timers)), 0)
	checkTimes(t, "no ticks", got, []impl.ClockOp{advanceOp(2000)}, times(1250))
}

func TestKindsOfClockOpsThatAreNone(t *testing.T) {
	for _, kind := range []int64{0, -1, 8, 9, 256, math.MinInt64, math.MaxInt64} {
		op := impl.ClockOp{Kind: kind, Time: 2000, Num: 1, Den: 1, Timer: impl.Timer{Policy: 1}}
		got := checkTimes(t, fmt.Sprintf("kind %d", kind), sampleClock(), []impl.ClockOp{op}, []impl.ClockOut{late(impl.ErrForm, 500)})
		checkAlike(t, "nothing is done", got, sampleClock())
	}
}

// filled is an op whose parts that its kind does not look at are that number.
func filled(op impl.ClockOp, n int64) impl.ClockOp {
	full := impl.ClockOp{Kind: op.Kind, Time: n, Num: n, Den: n, Timer: impl.Timer{Due: n, Period: n, Policy: n}}
	switch op.Kind {
	case impl.ClAdvance, impl.ClSet:
		full.Time = op.Time
	case impl.ClRate:
		full.Num, full.Den = op.Num, op.Den
	case impl.ClArm:
		full.Timer = op.Timer
	case impl.ClDisarm:
		full.Num = op.Num
	}
	return full
}

func TestPartsThatAClockOpDoesNotLookAt(t *testing.T) {
	ops := []impl.ClockOp{advanceOp(1009), freezeOp(), thawOp(), rateOp(1, 2), setOp(3), armOp(5, 0, 1), disarmOp(0)}
	outs := []impl.ClockOut{ticked(507, 1, 4, 1, 1), {Guest: 507}, {Guest: 507}, {Guest: 507}, {Guest: 3}, {Guest: 3}, {Guest: 3}}
	want := impl.Clock{Host: 1009, Guest: 3, Num: 1, Den: 2, Timers: []impl.Timer{{Due: 512, Period: 5, Policy: 2}, {Due: 514, Period: 7, Policy: 3}, {Due: 5, Policy: 1}}}
	checkAlike(t, "zeros", checkTimes(t, "zeros", sampleClock(), ops, outs), want)
	for _, n := range []int64{-1, 1 << 50, math.MinInt64, math.MaxInt64} {
		full := slices.Clone(ops)
		for at := range full {
			full[at] = filled(full[at], n)
		}
		what := fmt.Sprintf("%d elsewhere", n)
		checkAlike(t, what, checkTimes(t, what, sampleClock(), full, outs), want)
	}
}

func TestAsManyClockOpsAsMayBe(t *testing.T) {
	c := sampleClock()
	ops := make([]impl.ClockOp, 1001)
	for at := range ops {
		ops[at] = []impl.ClockOp{advanceOp(1000 + int64(at)), freezeOp(), {Kind: 8}, thawOp(), disarmOp(9)}[at%5]
	}
	got := checkClockRun(t, "MaxList", c, ops[:1000])
	checkAlike(t, "the last answers", got.Outs[995:], []impl.ClockOut{ticked(1246, 2, 0, 1), {Guest: 1246}, late(impl.ErrForm, 1246), {Guest: 1246}, late(impl.ErrNone, 1246)})
	checkAlike(t, "one more", impl.RunClock(c, ops), impl.ClockRun{Code: impl.ErrSize})
	checkAlike(t, "one more at nothing", impl.RunClock(impl.Clock{}, ops), impl.ClockRun{Code: impl.ErrSize})
	checkAlike(t, "no ops", impl.RunClock(c, nil), impl.ClockRun{Clock: c})
	checkAlike(t, "none at all", impl.RunClock(c, []impl.ClockOp{}), impl.ClockRun{Clock: c})
}

// goOn is the clock behind one call with an op for each of these times of the host's.
func goOn(t *testing.T, c impl.Clock, hosts ...int64) impl.Clock {
	t.Helper()
	var ops []impl.ClockOp
	for _, host := range hosts {
		ops = append(ops, advanceOp(host))
	}
	got := checkClockRun(t, fmt.Sprintf("%+v to %v", c, hosts), c, ops)
	for _, out := range got.Outs {
		checkNumber(t, fmt.Sprintf("%+v to %v", c, hosts), out.Code, impl.OK)
	}
	return got.Clock
}

func TestP15InTwoPartsAsInOne(t *testing.T) {
	rng := rand.New(rand.NewSource(93))
	whole, parts, frozen := 0, 0, 0
	for range 20000 {
		c := randomClock(rng, 0)
		last := c.Host + rng.Int63n(min(mostTime-c.Host, edgeTime(rng, 5, mostTime))+1)
		one := impl.RunClock(c, []impl.ClockOp{advanceOp(last)})
		if one.Outs[0].Code != impl.OK {
			checkNumber(t, "too far", one.Outs[0].Code, impl.ErrLimit)
			continue
		}
		whole++
		if one.Clock.Part < c.Part {
			parts++
		}
		mid := c.Host + rng.Int63n(last-c.Host+1)
		what := fmt.Sprintf("%+v by %d to %d", c, mid, last)
		checkAlike(t, what, goOn(t, c, mid, last), one.Clock)
		checkAlike(t, what+", two calls", goOn(t, goOn(t, c, mid), last), one.Clock)
		if c.Frozen {
			frozen++
			checkNumbers(t, what+", frozen", []int64{one.Clock.Guest, one.Clock.Part, one.Clock.Host}, []int64{c.Guest, c.Part, last})
		}
		if t.Failed() {
			return
		}
	}
	if whole < 5000 || parts < 1000 || frozen < 1000 {
		t.Errorf("%d went on, %d with a Part that made a whole, %d were frozen", whole, parts, frozen)
	}
}

// In as many parts as there are, too.
func TestP15OneByOne(t *testing.T) {
	for num := range int64(12) {
		for den := int64(1); den <= 12; den++ {
			c := impl.Clock{Host: 5, Guest: 3, Num: num, Den: den, Part: (num + 5) % den}
			hosts := inSteps(6, 1, 40)
			got := goOn(t, c, hosts...)
			checkAlike(t, "one by one", got, goOn(t, c, 45))
			checkNumber(t, "in parts", got.Guest*den+got.Part, 3*den+c.Part+40*num)
		}
	}
}

// Frozen a clock's guest's time stands still, with timers or without, whatever the host's time does.
func TestP15FrozenTimeStandsStill(t *testing.T) {
	rng := rand.New(rand.NewSource(94))
	for range 2000 {
		c := randomClock(rng, rng.Intn(5))
		c.Frozen = true
		var ops []impl.ClockOp
		for range 5 {
			ops = append(ops, advanceOp(c.Host+rng.Int63n(mostTime-c.Host+1)), freezeOp())
		}
		got := checkClockRun(t, "frozen", c, ops)
		for _, out := range got.Outs {
			checkNumber(t, "frozen: Guest", out.Guest, c.Guest)
		}
		checkNumbers(t, "frozen: Guest and Part", []int64{got.Clock.Guest, got.Clock.Part}, []int64{c.Guest, c.Part})
	}
}

// Ops in two calls come to what they come to in one.
func TestClockInTwoCalls(t *testing.T) {
	rng := rand.New(rand.NewSource(95))
	for range 200 {
		c := randomClock(rng, rng.Intn(6))
		ops := randomClockOps(rng, c, 40)
		whole := impl.RunClock(c, ops)
		for first := 0; first <= 40; first += 8 {
			one := impl.RunClock(c, ops[:first])
			two := impl.RunClock(one.Clock, ops[first:])
			checkAlike(t, "two calls", impl.ClockRun{Clock: two.Clock, Outs: slices.Concat(one.Outs, two.Outs)}, whole)
		}
	}
}

// The timers handed in have room behind their end, where what stands there stays.
func TestAnswersOfRunClockAreNewMemory(t *testing.T) {
	rng := rand.New(rand.NewSource(96))
	mark := impl.Timer{Due: 99, Period: 99, Policy: 99}
	for range 300 {
		c := randomClock(rng, rng.Intn(12))
		count := len(c.Timers)
		c.Timers = append(c.Timers, mark, mark, mark)[:count]
		before := copyClock(c)
		got := impl.RunClock(c, randomClockOps(rng, c, rng.Intn(30)))
		want := fmt.Sprintf("%+v", got.Clock)
		for at := range got.Outs {
			for in := range got.Outs[at].Ticks {
				got.Outs[at].Ticks[in] = int64(-at)
			}
			_ = append(got.Outs[at].Ticks, -77, -77)
		}
		for at, out := range got.Outs {
			for _, ticks := range out.Ticks {
				checkNumber(t, "ticks of their own", ticks, int64(-at))
			}
		}
		checkAlike(t, "timers beside ticks", fmt.Sprintf("%+v", got.Clock), want)
		for at := range got.Clock.Timers {
			got.Clock.Timers[at] = impl.Timer{Due: 77}
		}
		_ = append(got.Clock.Timers, impl.Timer{Due: 78}, impl.Timer{Due: 78})
		checkAlike(t, "what was handed in", c, before)
		checkAlike(t, "what is behind it", c.Timers[count:count+3], []impl.Timer{mark, mark, mark})
	}
}

func TestRunClockKeepsNothingForTheNextCall(t *testing.T) {
	ops := []impl.ClockOp{advanceOp(1009), armOp(3, 2, 1), freezeOp(), {Kind: 8}, advanceOp(1100)}
	first := impl.RunClock(sampleClock(), ops)
	impl.RunClock(impl.Clock{Num: 7, Den: 2, Timers: manyTimers(20)}, ops)
	checkAlike(t, "once more", impl.RunClock(sampleClock(), ops), first)
}

package tests

import (
	"fmt"
	"math"
	"math/rand"
	"runtime"
	"slices"
	"testing"

	"loop.example/g00038/impl"
)

// countMachine counts in r1, writes it to frame 1 and tells it: in the steps 2 and 3 of each four.
func countMachine(t *testing.T) impl.Machine {
	t.Helper()
	return loadMachine(t, 3, "top:\n addi r1, r1, 1\n storeb r1, r0, 456\n out r1, 2\n eq r0, r0, @top\n")
}

// paired is what a test tells of a pair by hand; Machine and Told are always those of a run alone.
type paired struct {
	frames int64
	redone int64
	backup bool
}

func checkPaired(t *testing.T, what string, m impl.Machine, events []impl.Event, steps int64, every int64, failAt int64, want paired) {
	t.Helper()
	got := checkPair(t, what, plainEvents(m, events, steps), m, events, steps, every, failAt)
	what = fmt.Sprintf("%s, %d steps, every %d, failAt %d", what, steps, every, failAt)
	checkNumbers(t, what+": Code, Frames, Redone", []int64{got.Code, got.Frames, got.Redone}, []int64{impl.OK, want.frames, want.redone})
	if got.Backup != want.backup {
		t.Errorf("%s: Backup is %t", what, got.Backup)
	}
}

func TestRunPairWithoutAFailure(t *testing.T) {
	m := countMachine(t)
	// Frame 1 becomes another one in the steps 2, 6 and 10.
	for every, frames := range map[int64]int64{1: 3, 2: 3, 3: 3, 4: 3, 5: 2, 6: 2, 7: 2, 9: 2, 10: 1, 11: 1, 12: 1, 13: 1, 999: 1, 1000: 1} {
		checkPaired(t, "count", m, nil, 12, every, 0, paired{frames, 0, false})
	}
	for steps, frames := range map[int64]int64{0: 0, 1: 0, 2: 1, 3: 1, 5: 1, 6: 2, 9: 2, 10: 3} {
		checkPaired(t, "count", m, nil, steps, 1, 0, paired{frames, 0, false})
	}
	checkPaired(t, "no steps", m, nil, 0, 1000, 5, paired{})
}

func TestRunPairFailsAtEachStep(t *testing.T) {
	m := countMachine(t)
	for failAt, want := range []paired{
		{3, 0, false}, {0, 1, true}, {0, 2, true}, {0, 3, true}, {0, 4, true}, // the checkpoint at 4 does not come any more
		{1, 1, true}, {1, 2, true}, {1, 3, true}, {1, 4, true},
		{2, 1, true}, {2, 2, true}, {2, 3, true}, {2, 4, true}, // the last step
		{3, 0, false}, {3, 0, false}, // behind the end
	} {
		checkPaired(t, "count", m, nil, 12, 4, int64(failAt), want)
	}
	for failAt, want := range []paired{{3, 0, false}, {0, 1, true}, {0, 1, true}, {1, 1, true}, {1, 1, true}, {1, 1, true}, {1, 1, true}, {2, 1, true}, {2, 1, true}, {2, 1, true}, {2, 1, true}, {3, 1, true}, {3, 1, true}, {3, 0, false}} {
		checkPaired(t, "count", m, nil, 12, 1, int64(failAt), want)
	}
	for failAt := range int64(16) {
		want := paired{0, failAt, true}
		if failAt == 0 || failAt > 12 {
			want = paired{1, 0, false}
		}
		checkPaired(t, "count", m, nil, 12, 1000, failAt, want)
	}
	for failAt, want := range map[int64]paired{1 << 40: {3, 0, false}, math.MaxInt64: {3, 0, false}} {
		checkPaired(t, "count", m, nil, 12, 4, failAt, want)
	}
}

// A checkpoint at the thousandth step, one step ahead of it and one behind it.
func TestRunPairOfThousands(t *testing.T) {
	m := countMachine(t)
	for failAt, want := range map[int64]paired{
		0: {3, 0, false}, 1: {0, 1, true}, 999: {0, 999, true}, 1000: {0, 1000, true}, 1001: {1, 1, true}, 1999: {1, 999, true}, 2000: {1, 1000, true}, 2001: {2, 1, true},
		2500: {2, 500, true}, 2501: {3, 0, false},
	} {
		got := checkPairSame(t, "count", m, nil, 2500, 1000, failAt)
		checkNumbers(t, fmt.Sprintf("failAt %d: Code, Frames, Redone", failAt), []int64{got.Code, got.Frames, got.Redone}, []int64{impl.OK, want.frames, want.redone})
		if got.Backup != want.backup {
			t.Errorf("failAt %d: Backup is %t", failAt, got.Backup)
		}
	}
	for _, failAt := range []int64{0, 1, 10000, 19999, 20000} {
		for _, every := range []int64{1, 7, 1000} {
			checkPairSame(t, "the most steps", m, nil, 20000, every, failAt)
		}
	}
}

func TestRunPairOfAMachineThatHalts(t *testing.T) {
	m := loadMachine(t, 3, "storeb r1, r0, 300\nout r1, 1\nstoreb r1, r0, 600\nout r1, 2\nhalt")
	m.Regs[1] = 7
	for failAt, want := range []paired{{2, 0, false}, {0, 1, true}, {0, 2, true}, {1, 1, true}, {1, 2, true}, {2, 1, true}, {2, 0, false}, {2, 0, false}} {
		checkPaired(t, "halts", m, nil, 100, 2, int64(failAt), want)
		checkPaired(t, "halts in the last step", m, nil, 5, 2, int64(failAt), want)
	}
	for failAt, want := range []paired{{2, 0, false}, {0, 1, true}, {0, 2, true}, {0, 3, true}, {0, 4, true}, {0, 5, true}, {2, 0, false}} {
		checkPaired(t, "halts at a checkpoint", m, nil, 100, 5, int64(failAt), want)
	}
	m.State = impl.StateHalt
	for _, failAt := range []int64{0, 1, 2} {
		checkPaired(t, "halted", m, nil, 100, 1, failAt, paired{})
	}
	m.Count = endCount
	checkPaired(t, "halted at the end of Count", m, nil, 100, 1, 1, paired{})
}

// Frames are held against those of the checkpoint ahead, whatever was between.
func TestRunPairCountsFramesThatDiffer(t *testing.T) {
	m := loadMachine(t, 5, "storeb r1, r0, 300\nstoreb r0, r0, 300\nstoreb r1, r0, 600\nstoreb r1, r0, 601\nstoreb r1, r0, 900\nstoreb r1, r0, 900\nstoreb r0, r0, 600\nstoreb r0, r0, 601")
	m.Regs[1] = 5
	for every, frames := range map[int64]int64{1: 7, 2: 3, 4: 3, 8: 1, 3: 4, 5: 3, 6: 3, 7: 3} {
		checkPaired(t, "back and forth", m, nil, 8, every, 0, paired{frames, 0, false})
	}
	paged := orderMachine(t, "addi r5, r5, 1\nstore r1, r2, 0", 0)
	paged.Regs[1] = 99
	checkPaired(t, "a flag, and then a store with two", paged, nil, 2, 1, 0, paired{3, 0, false})
	checkPaired(t, "all at once", paged, nil, 2, 2, 0, paired{3, 0, false})
	vector := vectorMachine(t, "addi r1, r1, 1", "halt")
	checkPaired(t, "a vector in two frames", vector, nil, 2, 2, 0, paired{2, 0, false})
}

// What was held back when the first machine failed is told by the second one, once.
func TestRunPairTellsAllOnce(t *testing.T) {
	m := echoMachine(t)
	var events []impl.Event
	for n := range int64(60) {
		events = append(events, inEvent(2*n, 5, n))
	}
	whole := checkRunEvents(t, "echo", m, events, 100)
	if len(whole.Told) != 33 {
		t.Fatalf("%d are told", len(whole.Told))
	}
	c := plainEvents(m, events, 100)
	for _, every := range []int64{1, 2, 3, 4, 7, 50, 99, 100, 101} {
		for failAt := range int64(102) {
			got := checkPair(t, "echo", c, m, events, 100, every, failAt)
			checkToldList(t, fmt.Sprintf("every %d, failAt %d", every, failAt), got.Told, whole.Told)
		}
	}
}

// Outs that have no place go out, too, also those of the second machine.
func TestRunPairTellsOutsThatHaveNoPlace(t *testing.T) {
	m := loadMachine(t, 1, "out r1, 1\naddi r1, r1, 1\neq r0, r0, -2")
	for failAt := int64(0); failAt < 700; failAt += 13 {
		got := checkPairSame(t, "many", m, nil, 600, 20, failAt)
		checkNumbers(t, fmt.Sprintf("failAt %d: Told, Outs", failAt), []int64{int64(len(got.Told)), int64(len(got.Machine.Outs))}, []int64{200, 100})
	}
}

// Events at the Count of a checkpoint come behind it: the second machine has them to come still.
func TestRunPairOfEventsAtACheckpoint(t *testing.T) {
	m := loadMachine(t, 2, "in r1, 5\nout r1, 2\nwait\neq r0, r0, -3")
	m.Ctl[impl.CtlEnable] = 1
	for _, first := range []int64{0, 1000, 1<<32 - 5} {
		m.Count = first
		for _, at := range []int64{0, 1, 3, 4, 5, 8, 9, 12} {
			events := []impl.Event{lineEvent(first, 0), inEvent(first+at, 5, 77), inEvent(first+at, 5, 78), lineEvent(first+at+1, 2)}
			c := plainEvents(m, events, 16)
			for failAt := range int64(18) {
				for _, every := range []int64{1, 3, 4, 5} {
					checkPair(t, fmt.Sprintf("At %d", first+at), c, m, events, 16, every, failAt)
				}
			}
		}
	}
}

func TestRunPairHoldsItsNumbersToTheirBounds(t *testing.T) {
	m := countMachine(t)
	for every, right := range withEnds(map[int64]bool{-1: false, 0: false, 1: true, 2: true, 999: true, 1000: true, 1001: false, 2000: false}) {
		for failAt, rightToo := range map[int64]bool{math.MinInt64: false, -2: false, -1: false, 0: true, 1: true, 2: true, 12: true, 13: true, math.MaxInt64: true} {
			for _, steps := range []int64{0, 12} {
				what := fmt.Sprintf("every %d, failAt %d, %d steps", every, failAt, steps)
				if right && rightToo {
					checkPair(t, what, plainEvents(m, nil, steps), m, nil, steps, every, failAt)
				} else {
					checkPairRun(t, what, impl.RunPair(m, nil, steps, every, failAt), impl.PairRun{Code: impl.ErrForm})
				}
			}
		}
	}
}

// All codes of RunEvents come first, also one of a late step.
func TestRunPairTellsTheFirstFault(t *testing.T) {
	m := countMachine(t)
	m.Count = endCount - 10
	wrong := copyMachine(m)
	wrong.Mode = 2
	long := manyEvents(1001, lineEvent(1, 1))
	for _, c := range []struct {
		what   string
		m      impl.Machine
		events []impl.Event
		steps  int64
		code   int64
	}{
		{"a long list, and all else", wrong, long, -1, impl.ErrSize},
		{"wrong steps", m, nil, -1, impl.ErrForm},
		{"a wrong machine", wrong, nil, 1, impl.ErrForm},
		{"wrong events, no room in Count", m, []impl.Event{lineEvent(1, 7)}, 11, impl.ErrForm},
		{"no room in Count", m, nil, 11, impl.ErrLimit},
	} {
		for _, every := range []int64{-1, 0, 1, 1000, 1001} {
			for _, failAt := range []int64{-1, 0, 1, 5, 11} {
				what := fmt.Sprintf("%s, every %d, failAt %d", c.what, every, failAt)
				checkPairRun(t, what, impl.RunPair(c.m, c.events, c.steps, every, failAt), impl.PairRun{Code: c.code})
			}
		}
	}
	checkPairRun(t, "room in Count, every 0", impl.RunPair(m, nil, 10, 0, 0), impl.PairRun{Code: impl.ErrForm})
	for _, failAt := range []int64{0, 1, 9, 10, 11} {
		checkPair(t, "room in Count", plainEvents(m, nil, 10), m, nil, 10, 3, failAt)
	}
}

func TestP41OfABusyMachine(t *testing.T) {
	m := busyMachine(t)
	var events []impl.Event
	for n := range int64(60) {
		events = append(events, inEvent(4*n, 7, n), lineEvent(4*n+n%3, n%7))
	}
	c := plainEvents(m, events, 240)
	for failAt := range int64(243) {
		for _, every := range []int64{1, 6, 25, 240, 1000} {
			checkPair(t, "busy", c, m, events, 240, every, failAt)
		}
		if t.Failed() {
			return
		}
	}
}

func TestP41OfRandomMachines(t *testing.T) {
	rng := rand.New(rand.NewSource(2043))
	var backups, told, frames, redone int64
	for n := range 1500 {
		m := []func(*rand.Rand) impl.Machine{talkMachine, talkMachine, moveMachine, shadowMachine}[n%4](rng)
		steps := oneOf(rng, 0, 1, 10, 60, 100)
		events := randomEvents(rng, m.Count, steps, int(oneOf(rng, 0, 5, 30)))
		c := plainEvents(m, events, steps)
		for range 6 {
			got := checkPair(t, fmt.Sprintf("machine %d", n), c, m, events, steps, oneOf(rng, 1, 2, 3, 5, 10, 30, 100), rng.Int63n(steps+3))
			if got.Backup {
				backups++
				redone += got.Redone
			}
			told += int64(len(got.Told))
			frames += got.Frames
		}
		if t.Failed() {
			return
		}
	}
	if backups < 2000 || told < 5000 || frames < 5000 || redone < 5000 {
		t.Errorf("too little happens: %d backups, %d told, %d frames, %d redone", backups, told, frames, redone)
	}
}

func TestRunPairKeepsNothingForTheNextCall(t *testing.T) {
	m := busyMachine(t)
	events := []impl.Event{inEvent(3, 7, 1), lineEvent(9, 2)}
	first := impl.RunPair(m, events, 240, 7, 100)
	for n := range int64(50) {
		impl.RunPair(countMachine(t), nil, 100, 1+n, n)
		impl.RunEvents(countMachine(t), events, 50)
		checkPairRun(t, "once more", impl.RunPair(m, events, 240, 7, 100), first)
	}
	told := slices.Clone(first.Told)
	for at := range first.Told {
		first.Told[at] = impl.Told{}
	}
	checkToldList(t, "once more", impl.RunPair(m, events, 240, 7, 100).Told, told)
}

// All that a call began has ended when it answers, also where it is refused or the first machine fails.
func TestRunPairLeavesNothingAtWork(t *testing.T) {
	m := busyMachine(t)
	ahead := runtime.NumGoroutine()
	for failAt := int64(-1); failAt < 70; failAt++ {
		for every := range int64(20) {
			impl.RunPair(m, nil, 60, every, failAt)
		}
	}
	for range 1000 {
		runtime.Gosched()
	}
	if left := runtime.NumGoroutine(); left > ahead {
		t.Errorf("%d goroutines, %d ahead", left, ahead)
	}
}

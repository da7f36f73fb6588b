package tests

import (
	"fmt"
	"math/rand"
	"runtime"
	"slices"
	"testing"

	"loop.example/g00038/impl"
)

// manyPlans fail in each tick up to that one, and never.
func manyPlans(last int64) []impl.MovePlan {
	var plans []impl.MovePlan
	for failAt := int64(-1); failAt <= last; failAt++ {
		for _, post := range []bool{false, true} {
			for _, batch := range []int64{1, 3, 8, 9} {
				for _, pace := range []int64{1, 7, 40} {
					for _, rounds := range []int64{0, 3} {
						plans = append(plans, impl.MovePlan{Batch: batch, Pace: pace, Rounds: rounds, Small: batch % 2, Post: post, FailAt: failAt})
					}
				}
			}
		}
	}
	return plans
}

func TestP37OfABusyMachine(t *testing.T) {
	m := busyMachine(t)
	places := map[int64]int{}
	for _, plan := range manyPlans(14) {
		got := checkMoveSame(t, "busy", m, plan, 240)
		places[got.Place]++
	}
	if places[impl.PlaceHere] < 50 || places[impl.PlaceThere] < 50 || places[impl.PlaceLost] < 5 {
		t.Errorf("places: %v", places)
	}
}

func TestP37OfABusyMachineByPlainTicks(t *testing.T) {
	m := busyMachine(t)
	for at, plan := range manyPlans(14) {
		checkMovePlain(t, "busy", m, plan, []int64{0, 33, 90, 120}[at%4])
		if t.Failed() {
			return
		}
	}
}

func TestP37OfLongRuns(t *testing.T) {
	m := busyMachine(t)
	for _, steps := range []int64{2000, impl.MaxSteps - 1, impl.MaxSteps} {
		for _, plan := range []impl.MovePlan{
			{Batch: 1, Pace: 1, Rounds: 20, FailAt: -1}, {Batch: 1, Pace: 1, Rounds: 20, FailAt: 300},
			{Batch: 2, Pace: 13, Rounds: 20, Post: true, FailAt: -1}, {Batch: 256, Pace: 1000, Rounds: 3, FailAt: 10},
		} {
			checkMoveSame(t, "busy", m, plan, steps)
		}
	}
}

// The greatest machine writes to each of its frames, over and over.
func TestP37OfTheGreatestMachine(t *testing.T) {
	m := loadMachine(t, 256, "store r1, r2, 252\naddi r2, r2, 256\naddi r1, r1, 1\nlo r2, r3, -3\naddi r2, r0, 0\neq r0, r0, -5")
	m.Regs[1], m.Regs[3] = 1, 65536
	for _, post := range []bool{false, true} {
		for _, plan := range []impl.MovePlan{
			{Batch: 1, Pace: 1, Rounds: 20, FailAt: -1}, {Batch: 1, Pace: 4, Rounds: 20, FailAt: -1}, {Batch: 256, Pace: 1000, Rounds: 20, FailAt: -1},
			{Batch: 100, Pace: 1000, Rounds: 1, FailAt: -1}, {Batch: 7, Pace: 100, Rounds: 20, Small: 100, FailAt: 60},
		} {
			plan.Post = post
			got := checkMoveSame(t, "great", m, plan, impl.MaxSteps)
			if plan.FailAt < 0 && (got.Place != impl.PlaceThere || got.Sent < 256) {
				t.Errorf("%+v: Place %d, Sent %d", plan, got.Place, got.Sent)
			}
		}
	}
	got := checkMoveSame(t, "all frames dirty", m, impl.MovePlan{Batch: 256, Pace: 1000, Rounds: 0, FailAt: -1}, 2000)
	checkNumbers(t, "250 frames are written to in a tick", got.Dirty, []int64{250})
	got = checkMoveSame(t, "all frames dirty, in two ticks", m, impl.MovePlan{Batch: 128, Pace: 1000, Rounds: 0, FailAt: -1}, 2000)
	checkNumbers(t, "Dirty, Sent and Down of two ticks", append(got.Dirty, got.Sent, got.Down), []int64{250, 506, 2})
}

func TestP37OfTheLeastMachine(t *testing.T) {
	m := loadMachine(t, 1, "storeb r1, r0, 200\naddi r1, r1, 1\neq r0, r0, -2")
	for _, plan := range manyPlans(8) {
		checkMovePlain(t, "one frame", m, plan, 30)
	}
}

// moveTally is what happened in random moves: those in which nothing happens would tell nothing.
type moveTally struct {
	places map[int64]int64
	faults int64
	downs  int64
	rounds int64
	pages  int64
	halts  int64
	apart  int64
}

func (y *moveTally) count(m impl.Machine, got impl.MoveRun, apart int) {
	y.places[got.Place]++
	y.faults += got.Faults
	y.apart += int64(apart)
	y.pages += m.Ctl[impl.CtlStatus] / impl.StatusPaged
	y.downs += got.Down / 2
	y.rounds += int64(len(got.Dirty) / 3)
	y.halts += got.Machine.State / impl.StateHalt
}

func (y *moveTally) check(t *testing.T, least moveTally) {
	t.Helper()
	for place, count := range least.places {
		if y.places[place] < count {
			t.Errorf("too little happens: places %v", y.places)
		}
	}
	if y.faults < least.faults || y.downs < least.downs || y.rounds < least.rounds || y.pages < least.pages || y.halts < least.halts || y.apart < least.apart {
		t.Errorf("too little happens: %+v", y)
	}
}

func TestP37OfRandomMachines(t *testing.T) {
	rng := rand.New(rand.NewSource(1901))
	tally := &moveTally{places: map[int64]int64{}}
	for range 5000 {
		m := moveMachine(rng)
		plan := randomPlan(rng, int64(len(m.Mem)/256))
		got, apart := checkMovePlain(t, machineText(m), m, plan, oneOf(rng, 0, 5, 20, 60, 150, 250))
		if t.Failed() {
			return
		}
		tally.count(m, got, apart)
	}
	tally.check(t, moveTally{
		places: map[int64]int64{impl.PlaceHere: 1000, impl.PlaceThere: 1000, impl.PlaceLost: 50},
		faults: 500, downs: 40, rounds: 200, pages: 1000, halts: 100, apart: 20,
	})
}

// These machines are full of code that traps, waits, writes to itself and goes from one table to another.
func TestP37OfRandomMachinesOfStage6(t *testing.T) {
	rng := rand.New(rand.NewSource(1903))
	tally := &moveTally{places: map[int64]int64{}}
	for range 800 {
		m := shadowMachine(rng)
		plan := randomPlan(rng, int64(len(m.Mem)/256))
		got, apart := checkMovePlain(t, machineText(m), m, plan, oneOf(rng, 0, 1, 5, 20, 40, 60))
		if t.Failed() {
			return
		}
		tally.count(m, got, apart)
	}
	tally.check(t, moveTally{places: map[int64]int64{impl.PlaceHere: 100, impl.PlaceThere: 100, impl.PlaceLost: 2}, faults: 10, pages: 200, halts: 2})
}

// These machines have each kind of instruction at whatever places, tables that lead anywhere, and a Count near its end.
func TestP37OfRandomMachinesOfStage4(t *testing.T) {
	rng := rand.New(rand.NewSource(1902))
	instrs := everyInstr()
	for range 1000 {
		m := randomMachine(rng, wordOfInstr(instrs[rng.Intn(len(instrs))]))
		m.Ctl[impl.CtlVector] = 4 * rng.Int63n(int64(len(m.Mem)/4))
		m.Count = oneOf(rng, min(m.Count, endCount-30), endCount-31, endCount-30)
		checkMovePlain(t, machineText(m), m, randomPlan(rng, int64(len(m.Mem)/256)), 30)
		if t.Failed() {
			return
		}
	}
}

// Each op is done here, there, and there with frames that lack.
func TestP37OfEveryOp(t *testing.T) {
	seen := map[int64]bool{}
	for at, i := range everyInstr() {
		if seen[i.Op] && at%8 > 0 {
			continue
		}
		seen[i.Op] = true
		for kind := range int64(8) {
			m := sampleMachine(wordOfInstr(i))
			if kind%2 == 1 {
				m = pagedMachine(kind/2%2, wordOfInstr(i))
			}
			m.Mode = kind / 2 % 2
			m.Ctl[impl.CtlStatus] = m.Ctl[impl.CtlStatus]&^impl.StatusVec | impl.StatusVec*(kind/4)
			m.Regs[1], m.Regs[2], m.Regs[15] = dataAt, openPage, readPage+16
			plan := impl.MovePlan{Batch: 256, Pace: 1, FailAt: -1, Post: at%2 == 0}
			checkMovePlain(t, fmt.Sprintf("%+v, kind %d", i, kind), m, plan, 4)
		}
		if t.Failed() {
			return
		}
	}
}

func TestP37OfLinesAndTheTimer(t *testing.T) {
	for kind := range int64(4) {
		for _, lines := range []int64{0, 1, 0x50, 127} {
			for timer := range int64(12) {
				m := loadMachine(t, 2, "addi r1, r1, 1\nstoreb r1, r0, 300\nsys\nwait\neq r0, r0, -4\nret")
				m.Mode, m.Ctl[impl.CtlStatus] = kind%2, kind/2*impl.StatusOn
				m.Lines, m.Ctl[impl.CtlEnable], m.Ctl[impl.CtlTimer], m.Ctl[impl.CtlVector] = lines, 0xd1, timer, 20
				what := fmt.Sprintf("mode %d, status %d, lines %#x, timer %d", m.Mode, kind/2, lines, timer)
				for _, post := range []bool{false, true} {
					checkMovePlain(t, what, m, impl.MovePlan{Batch: 1, Pace: 2, Rounds: 1, Post: post, FailAt: timer - 1}, 30)
				}
			}
		}
	}
}

// What is read at ports here is not read there again, and what is told stays told.
func TestP37OfPorts(t *testing.T) {
	m := loadMachine(t, 3, "in r1, 7\nout r1, 9\nstoreb r1, r0, 300\neq r0, r0, -3")
	for n := range int64(20) {
		m.Ins = append(m.Ins, impl.PortValue{Port: 7, Value: 100 + n})
	}
	for _, plan := range manyPlans(10) {
		got, _ := checkMovePlain(t, "ports", m, plan, 50)
		for n, out := range got.Machine.Outs {
			checkNumbers(t, "Outs", []int64{out.Port, out.Value}, []int64{9, int64(100 + n)})
		}
	}
}

// A machine that is moved, and moved on, comes to what it comes to in one place.
func TestP37InTwoMoves(t *testing.T) {
	m := busyMachine(t)
	whole := impl.RunMachine(m, 240)
	for first := int64(0); first <= 240; first += 5 {
		plan := impl.MovePlan{Batch: 2, Pace: 3, Rounds: first % 4, Post: first%2 == 0, FailAt: -1}
		one := impl.Migrate(m, plan, first)
		two := impl.Migrate(one.Machine, plan, 240-first)
		checkNumbers(t, "Places", []int64{one.Place, two.Place}, []int64{impl.PlaceThere, impl.PlaceThere})
		checkRun(t, fmt.Sprintf("%d steps and the others", first), impl.MachineRun{Machine: two.Machine, Steps: one.Steps + two.Steps}, whole)
	}
}

func TestAnswersOfMigrateAreNewMemory(t *testing.T) {
	m := sampleMachine(wordOfText(t, "out r1, 3"))
	room := make([]impl.PortValue, 3, 10)
	m.Outs = room
	before := copyMachine(m)
	for _, state := range []int64{impl.StateGo, impl.StateWait, impl.StateHalt} {
		m.State, before.State = state, state
		for _, plan := range []impl.MovePlan{{Batch: 2, Pace: 1, FailAt: -1}, {Batch: 2, Pace: 1, Post: true, FailAt: -1}, {Batch: 2, Pace: 1, FailAt: 1}} {
			for _, steps := range []int64{0, 1, 5} {
				got := impl.Migrate(m, plan, steps)
				a := got.Machine
				a.Regs[1], a.Ctl[1], a.Vec[1], a.Ins[0].Value, a.Outs[0].Value = 1, 2, 3, 4, 5
				_ = append(a.Outs[:0], impl.PortValue{Port: 9})
				for at := range got.Dirty {
					got.Dirty[at] = 99
				}
				checkMachine(t, "what was handed in", m, before)
			}
		}
	}
	checkPorts(t, "the room behind Outs", room[:4], make([]impl.PortValue, 4))
}

func TestMigrateKeepsNothingForTheNextCall(t *testing.T) {
	m := busyMachine(t)
	plan := impl.MovePlan{Batch: 1, Pace: 5, Rounds: 3, Post: true, FailAt: -1}
	first := impl.Migrate(m, plan, 300)
	other := rowMachine(t, 40)
	for range 50 {
		impl.Migrate(other, samplePlan(), 100)
		checkMoveRun(t, "once more", impl.Migrate(m, plan, 300), first)
	}
}

// All that a call began has ended when it answers, also where the machine is refused, stays or is lost.
func TestMigrateLeavesNothingAtWork(t *testing.T) {
	m := busyMachine(t)
	ahead := runtime.NumGoroutine()
	for _, plan := range slices.Concat(manyPlans(6), []impl.MovePlan{{}, {Batch: 1, Pace: 1, FailAt: -2}}) {
		impl.Migrate(m, plan, 60)
	}
	for range 1000 {
		runtime.Gosched()
	}
	if left := runtime.NumGoroutine(); left > ahead {
		t.Errorf("%d goroutines, %d ahead", left, ahead)
	}
}

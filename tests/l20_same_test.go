package tests

import (
	"fmt"
	"math/rand"
	"testing"

	"loop.example/g00038/impl"
)

// packedOn is a machine that went through its text.
func packedOn(t *testing.T, what string, m impl.Machine) impl.Machine {
	t.Helper()
	got := impl.UnpackMachine(impl.PackMachine(m))
	checkNumber(t, what+": Code of UnpackMachine", got.Code, impl.OK)
	return got.Machine
}

// checkMovedOn is P52: a machine is moved, packed and unpacked, and then run by blocks, and with shadow tables in another
// host.
func checkMovedOn(t *testing.T, what string, m impl.Machine, plan impl.MovePlan, first int64, second int64) (lost bool) {
	t.Helper()
	what = fmt.Sprintf("%s, %+v, %d and %d steps", what, plan, first, second)
	moved := impl.Migrate(m, plan, first)
	if moved.Place == impl.PlaceLost {
		return true
	}
	back := packedOn(t, what, moved.Machine)
	checkMachine(t, what+": back", back, moved.Machine)
	whole := impl.RunMachine(m, first+second)
	blocks := checkSame(t, what, back, second)
	checkRun(t, what+": by blocks", impl.MachineRun{Code: blocks.Code, Machine: blocks.Machine, Steps: moved.Steps + blocks.Steps}, whole)
	shadow := checkShadowSame(t, what, back, second)
	checkRun(t, what+": with shadow tables", impl.MachineRun{Code: shadow.Code, Machine: shadow.Machine, Steps: moved.Steps + shadow.Steps}, whole)
	frames, _ := sampleHost(back)
	checkText(t, what+": in the other host", impl.TakeMemory(frames, shadow.Host), whole.Machine.Mem)
	return false
}

func TestP52OfABusyMachine(t *testing.T) {
	m := busyMachine(t)
	for first := range int64(241) {
		plan := impl.MovePlan{Batch: 1 + first%9, Pace: 1 + first%13, Rounds: first % 4, Small: first % 2, Post: first%2 == 0, FailAt: first%7 - 1}
		checkMovedOn(t, "busy", m, plan, first, 240-first)
		plan.FailAt, plan.Post = -1, !plan.Post
		checkMovedOn(t, "busy", m, plan, first, 240-first)
	}
}

func TestP52OfRandomMachines(t *testing.T) {
	rng := rand.New(rand.NewSource(2052))
	lost := 0
	for n := range 1500 {
		m := []func(*rand.Rand) impl.Machine{moveMachine, shadowMachine, talkMachine}[n%3](rng)
		plan := randomPlan(rng, int64(len(m.Mem)/256))
		if checkMovedOn(t, fmt.Sprintf("machine %d", n), m, plan, oneOf(rng, 0, 1, 20, 60, 150), oneOf(rng, 0, 1, 20, 60, 150)) {
			lost++
		}
		if t.Failed() {
			return
		}
	}
	if lost > 300 {
		t.Errorf("%d of them are lost", lost)
	}
}

// A machine of each op, with and without pages, goes on from its text as from itself.
func TestP52OfEveryOp(t *testing.T) {
	plan := impl.MovePlan{Batch: 256, Pace: 1, FailAt: -1}
	for at, i := range everyInstr() {
		if at%5 > 0 {
			continue
		}
		for kind := range int64(4) {
			m := sampleMachine(wordOfInstr(i))
			if kind%2 == 1 {
				m = pagedMachine(kind/2, wordOfInstr(i))
			}
			m.Mode = kind / 2
			checkMovedOn(t, fmt.Sprintf("%+v, kind %d", i, kind), m, plan, 0, 3)
		}
		if t.Failed() {
			return
		}
	}
}

// A machine goes from host to host, each time by another way, and comes to what it comes to in one place.
func TestP52FromHostToHost(t *testing.T) {
	first := busyMachine(t)
	plan := impl.MovePlan{Batch: 2, Pace: 5, Rounds: 2, FailAt: -1}
	for pace := int64(1); pace <= 40; pace++ {
		m, done := first, int64(0)
		for turn := range 6 {
			m = packedOn(t, "a host", impl.Migrate(m, plan, pace).Machine)
			if turn%2 == 0 {
				m = packedOn(t, "a host", impl.RunBlocks(m, pace).Machine)
			} else {
				frames, host := sampleHost(m)
				next := impl.RunShadow(m, frames, host, pace).Machine
				m = impl.ApplyDelta(m, impl.DeltaOf(m, next)).Machine
			}
			done += 2 * pace
		}
		checkMachine(t, fmt.Sprintf("%d steps at a time", pace), m, impl.RunMachine(first, done).Machine)
	}
}

package tests

import (
	"fmt"
	"math"
	"math/rand"
	"testing"

	"loop.example/g00038/impl"
)

func TestP11OfABusyMachine(t *testing.T) {
	m := busyMachine(t)
	for steps := range int64(300) {
		checkSame(t, fmt.Sprintf("%d steps", steps), m, steps)
	}
	for _, steps := range []int64{400, 777, 1000} {
		checkBlockRun(t, fmt.Sprintf("%d steps", steps), impl.RunBlocks(m, steps), plainRun(m, steps))
	}
	for _, steps := range []int64{2000, 9999, impl.MaxSteps - 1, impl.MaxSteps} {
		checkSame(t, fmt.Sprintf("%d steps", steps), m, steps)
	}
}

// In two parts all blocks are made anew, but the machine comes to the same.
func TestP11InTwoParts(t *testing.T) {
	m := busyMachine(t)
	whole := impl.RunMachine(m, 240)
	for first := int64(0); first <= 240; first += 7 {
		one := impl.RunBlocks(m, first)
		two := impl.RunBlocks(one.Machine, 240-first)
		got := impl.MachineRun{Code: two.Code, Machine: two.Machine, Steps: one.Steps + two.Steps}
		checkRun(t, fmt.Sprintf("%d steps and the others", first), got, whole)
	}
}

func TestP11OfRandomMachines(t *testing.T) {
	rng := rand.New(rand.NewSource(11))
	var sum impl.BlockRun
	pages, users, traps := 0, 0, 0
	for range 500 {
		m := blockMachine(rng)
		if impl.MachineFault(m) != impl.OK {
			t.Fatalf("%s: not right", machineText(m))
		}
		got := checkSame(t, machineText(m), m, 100)
		checkBlockRun(t, machineText(m), got, plainRun(m, 100))
		if t.Failed() {
			return
		}
		sum.Made, sum.Entered, sum.Chained, sum.Dropped = sum.Made+got.Made, sum.Entered+got.Entered, sum.Chained+got.Chained, sum.Dropped+got.Dropped
		pages += int(m.Ctl[impl.CtlStatus] / impl.StatusPaged)
		users += int(1 - m.Mode)
		traps += int(min(got.Machine.Ctl[impl.CtlCause], 1))
	}
	// Runs in which nothing happens would tell nothing.
	if sum.Made < 1500 || sum.Entered < 10000 || sum.Chained < 5000 || sum.Dropped < 300 || pages < 150 || users < 100 || traps < 150 {
		t.Errorf("too little happens: %+v, with pages %d, as users %d, with traps %d", sum, pages, users, traps)
	}
}

// These machines have each kind of instruction at whatever places, tables that lead anywhere, and a Count near its end.
func TestP11OfRandomMachinesOfStage4(t *testing.T) {
	rng := rand.New(rand.NewSource(12))
	instrs := everyInstr()
	for range 400 {
		m := randomMachine(rng, wordOfInstr(instrs[rng.Intn(len(instrs))]))
		m.Ctl[impl.CtlVector] = 4 * rng.Int63n(int64(len(m.Mem)/4))
		m.Count = []int64{m.Count, endCount - 41, endCount - 40, endCount - 39}[rng.Intn(4)]
		got := checkSame(t, machineText(m), m, 40)
		checkBlockRun(t, machineText(m), got, plainRun(m, 40))
		if t.Failed() {
			return
		}
	}
}

// Each instruction is done in both modes, with and without pages and vectors, as the second one of a block.
func TestP11OfEveryInstruction(t *testing.T) {
	for _, i := range everyInstr() {
		for kind := range int64(8) {
			m := sampleMachine(0)
			if kind%2 == 1 {
				m = pagedMachine(kind/2%2, 0)
			}
			m.Mode = kind / 2 % 2
			m.Ctl[impl.CtlStatus] = m.Ctl[impl.CtlStatus]&^impl.StatusVec | impl.StatusVec*(kind/4)
			m.Regs[1], m.Regs[2], m.Regs[15] = dataAt, openPage, readPage+16
			add := wordOfText(t, "addi r9, r9, 4")
			m.Mem = fourWords(m.Mem, samplePc, []int64{add, wordOfInstr(i), add, add})
			checkSame(t, fmt.Sprintf("%+v, kind %d", i, kind), m, 6)
		}
		if t.Failed() {
			return
		}
	}
}

func TestP11OfLinesAndTheTimer(t *testing.T) {
	for kind := range int64(4) {
		for _, lines := range []int64{0, 1, 0x50, 127} {
			for timer := range int64(12) {
				m := loadMachine(t, 2, "addi r1, r1, 1\naddi r1, r1, 2\nsys\nwait\neq r0, r0, -4\nret")
				m.Mode, m.Ctl[impl.CtlStatus] = kind%2, kind/2*impl.StatusOn
				m.Lines, m.Ctl[impl.CtlEnable], m.Ctl[impl.CtlTimer], m.Ctl[impl.CtlVector] = lines, 0xd1, timer, 20
				what := fmt.Sprintf("mode %d, status %d, lines %#x, timer %d", m.Mode, kind/2, lines, timer)
				got := checkSame(t, what, m, 60)
				checkBlockRun(t, what, got, plainRun(m, 60))
			}
		}
	}
}

// What is fetched is the entry by which it is looked up: flags come into the very word that the block has.
func TestP11OfAFetchOfItsOwnEntry(t *testing.T) {
	for _, flags := range []int64{0, flagA} {
		m := tableMachine(t, "halt", flags, 0, 0)
		m.Pc = 0
		got := checkSame(t, "its own entry", m, 1)
		checkNumbers(t, "Cause and value", got.Machine.Ctl[impl.CtlCause:][:2], []int64{impl.CauseIllegal, readEntry(m.Mem, 1, 0) | flagA})
		checkBlockRun(t, "and on", checkSame(t, "and on", m, 9), plainRun(m, 9))
	}
}

// One block is run by the kernel, by a user, and with and without vectors: what it may do hangs on the machine.
func TestP11OfOneBlockInBothModes(t *testing.T) {
	m := loadMachine(t, 1, "addi r1, r1, 1\nvadd v1, v1, v2\ngetc r3, 8\neq r1, r2, 4\nputc r1, 5\nret\nhalt\nhalt")
	m.Regs[2], m.Vec[8], m.Ctl[impl.CtlFrom] = 9, 3, 0
	for _, status := range []int64{0, impl.StatusVec, impl.StatusVec | impl.StatusWasKernel} {
		for _, vector := range []int64{0, 12, 20} {
			m.Ctl[impl.CtlStatus], m.Ctl[impl.CtlVector] = status, vector
			what := fmt.Sprintf("status %d, vector %d", status, vector)
			checkBlockRun(t, what, checkSame(t, what, m, 80), plainRun(m, 80))
		}
	}
}

func TestP11AtTheEndOfCount(t *testing.T) {
	for _, state := range []int64{impl.StateGo, impl.StateWait, impl.StateHalt} {
		for _, count := range []int64{endCount - 3, endCount - 1, endCount} {
			m := loadMachine(t, 1, "addi r1, r1, 1\neq r0, r0, -1")
			m.State, m.Count = state, count
			for _, steps := range []int64{-1, 0, 1, 2, 3, 4, impl.MaxSteps, impl.MaxSteps + 1} {
				checkSame(t, fmt.Sprintf("state %d, Count %d, %d steps", state, count, steps), m, steps)
			}
		}
	}
	m := loadMachine(t, 1, "addi r1, r1, 1\neq r0, r0, -1")
	m.Count = endCount - 1
	checkBlocks(t, "one step to the end", m, 1, 1, 1, 0, 0)
	checkBlockRun(t, "two steps to the end", impl.RunBlocks(m, 2), impl.BlockRun{Code: impl.ErrLimit})
	m.Count = endCount
	checkBlocks(t, "no step at the end", m, 0, 0, 0, 0, 0)
	checkBlockRun(t, "one step at the end", impl.RunBlocks(m, 1), impl.BlockRun{Code: impl.ErrLimit})
	m = loadMachine(t, 1, "halt")
	m.Count = endCount - 1
	checkBlocks(t, "a halt at the end", m, impl.MaxSteps, 1, 1, 0, 0)
}

func TestP11OfMachinesThatWaitOrHalt(t *testing.T) {
	for _, state := range []int64{impl.StateWait, impl.StateHalt} {
		m := sampleMachine(wordOfText(t, "addi r1, r1, 1"))
		m.State, m.Lines = state, 0
		for _, steps := range []int64{0, 1, 50, impl.MaxSteps} {
			got := checkSame(t, fmt.Sprintf("state %d, %d steps", state, steps), m, steps)
			if state == impl.StateHalt {
				checkBlockRun(t, "a halted machine", got, impl.BlockRun{Machine: m})
			}
		}
	}
	checkBlocks(t, "a halt ends the run", loadMachine(t, 1, "addi r1, r1, 1\nhalt"), impl.MaxSteps, 1, 1, 0, 0)
	checkBlocks(t, "a wait does not", loadMachine(t, 1, "addi r1, r1, 1\nwait"), 500, 1, 1, 0, 0)
}

func TestRunBlocksRefusesWrongSteps(t *testing.T) {
	for _, state := range []int64{impl.StateGo, impl.StateWait, impl.StateHalt} {
		for _, count := range []int64{0, endCount} {
			m := sampleMachine(0)
			m.State, m.Count = state, count
			for _, steps := range []int64{-1, impl.MaxSteps + 1, math.MinInt64, math.MaxInt64} {
				checkBlockRun(t, fmt.Sprintf("%d steps", steps), impl.RunBlocks(m, steps), impl.BlockRun{Code: impl.ErrForm})
			}
		}
	}
}

func TestRunBlocksRefusesWrongMachines(t *testing.T) {
	checkBlockRun(t, "the zero machine", impl.RunBlocks(impl.Machine{}, 1), impl.BlockRun{Code: impl.ErrForm})
	for _, c := range wrongChanges() {
		m := sampleMachine(0)
		c.change(&m)
		for _, steps := range []int64{-1, 0, 3} {
			checkBlockRun(t, c.what, impl.RunBlocks(m, steps), impl.BlockRun{Code: impl.ErrForm})
		}
	}
}

func TestP11OfMachinesAtTheirBounds(t *testing.T) {
	for _, c := range rightChanges() {
		m := sampleMachine(wordOfText(t, "addi r1, r1, 1"))
		c.change(&m)
		checkSame(t, c.what, m, 5)
	}
}

func TestAnswersOfRunBlocksAreNewMemory(t *testing.T) {
	m := sampleMachine(wordOfText(t, "out r1, 3"))
	room := make([]impl.PortValue, 3, 10)
	m.Outs = room
	before := copyMachine(m)
	for _, state := range []int64{impl.StateGo, impl.StateWait, impl.StateHalt} {
		m.State, before.State = state, state
		for _, steps := range []int64{0, 1, 5} {
			a := impl.RunBlocks(m, steps).Machine
			a.Regs[1], a.Ctl[1], a.Vec[1], a.Ins[0].Value, a.Outs[0].Value = 1, 2, 3, 4, 5
			_ = append(a.Outs[:0], impl.PortValue{Port: 9})
			checkMachine(t, "what was handed in", m, before)
		}
	}
	checkPorts(t, "the room behind Outs", room[:4], make([]impl.PortValue, 4))
}

func TestRunBlocksKeepsNothingForTheNextCall(t *testing.T) {
	m := busyMachine(t)
	first := impl.RunBlocks(m, 300)
	impl.RunBlocks(rowMachine(t, 40), 100)
	checkBlockRun(t, "once more", impl.RunBlocks(m, 300), first)
}

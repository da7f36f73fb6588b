package tests

import (
	"fmt"
	"math"
	"math/rand"
	"slices"
	"strings"
	"testing"

	"loop.example/g00038/impl"
)

const endCount = 1 << 40

func TestNewMachine(t *testing.T) {
	for _, frames := range []int{1, 4, 256} {
		mem := filledMemory(frames)
		got := impl.NewMachine(mem)
		checkMachine(t, fmt.Sprintf("of %d frames", frames), got, impl.Machine{
			Mode: impl.ModeKernel, Mem: mem, Regs: make([]int64, 16), Ctl: make([]int64, 12), Vec: make([]int64, 16),
		})
		checkNumber(t, "MachineFault", impl.MachineFault(got), impl.OK)
	}
	for _, size := range []int{0, 1, 255, 257, 65535, 65537, 65792} {
		checkMachine(t, fmt.Sprintf("of %d bytes", size), impl.NewMachine(strings.Repeat("a", size)), impl.Machine{})
	}
	a, b := impl.NewMachine(emptyMemory(1)), impl.NewMachine(emptyMemory(1))
	a.Regs[1], a.Ctl[1], a.Vec[1] = 1, 1, 1
	checkMachine(t, "another one", b, impl.NewMachine(emptyMemory(1)))
}

// machineChange makes a machine another one, right or not.
type machineChange struct {
	what   string
	change func(m *impl.Machine)
}

func rightChanges() []machineChange {
	changes := []machineChange{
		{"Pc 0", func(m *impl.Machine) { m.Pc = 0 }}, {"Pc at its end", func(m *impl.Machine) { m.Pc = allOn }}, {"Pc odd", func(m *impl.Machine) { m.Pc = 3 }},
		{"ModeUser", func(m *impl.Machine) { m.Mode = impl.ModeUser }},
		{"StateWait", func(m *impl.Machine) { m.State = impl.StateWait }}, {"StateHalt", func(m *impl.Machine) { m.State = impl.StateHalt }},
		{"Count 0", func(m *impl.Machine) { m.Count = 0 }}, {"Count at its end", func(m *impl.Machine) { m.Count = endCount }},
		{"Lines 0", func(m *impl.Machine) { m.Lines = 0 }}, {"all Lines", func(m *impl.Machine) { m.Lines = 127 }},
		{"Trace 0", func(m *impl.Machine) { m.Trace = 0 }}, {"Trace at its end", func(m *impl.Machine) { m.Trace = 2147483628 }},
		{"one frame", func(m *impl.Machine) { m.Mem = emptyMemory(1) }}, {"all frames", func(m *impl.Machine) { m.Mem = emptyMemory(256) }},
		{"no ports", func(m *impl.Machine) { m.Ins, m.Outs = nil, nil }},
		{"all ports", func(m *impl.Machine) { m.Ins, m.Outs = make([]impl.PortValue, 100), make([]impl.PortValue, 100) }},
		{"ends of Ins", func(m *impl.Machine) { m.Ins[0], m.Ins[1] = impl.PortValue{}, impl.PortValue{Port: 2047, Value: allOn} }},
		{"ends of Outs", func(m *impl.Machine) { m.Outs = []impl.PortValue{{}, {Port: 2047, Value: allOn}} }},
		{"all status", func(m *impl.Machine) { m.Ctl[impl.CtlStatus] = 31 }},
	}
	for n := range 16 {
		changes = append(changes,
			machineChange{fmt.Sprintf("Vec %d at its ends", n), func(m *impl.Machine) { m.Vec[n], m.Vec[15-n] = 0, allOn }})
		if n > 0 {
			changes = append(changes, machineChange{fmt.Sprintf("register %d at its end", n), func(m *impl.Machine) { m.Regs[n] = allOn }})
		}
	}
	for _, n := range []int{1, 2, 3, 4, 5, 6, 7, 10} {
		changes = append(changes, machineChange{fmt.Sprintf("control word %d at its end", n), func(m *impl.Machine) { m.Ctl[n] = allOn }},
			machineChange{fmt.Sprintf("control word %d at 0", n), func(m *impl.Machine) { m.Ctl[n] = 0 }})
	}
	return changes
}

func wrongChanges() []machineChange {
	changes := []machineChange{
		{"fewer Regs", func(m *impl.Machine) { m.Regs = m.Regs[:15] }}, {"more Regs", func(m *impl.Machine) { m.Regs = append(m.Regs, 0) }}, {"no Regs", func(m *impl.Machine) { m.Regs = nil }},
		{"fewer Ctl", func(m *impl.Machine) { m.Ctl = m.Ctl[:11] }}, {"more Ctl", func(m *impl.Machine) { m.Ctl = append(m.Ctl, 0) }}, {"no Ctl", func(m *impl.Machine) { m.Ctl = nil }},
		{"fewer Vec", func(m *impl.Machine) { m.Vec = m.Vec[:15] }}, {"more Vec", func(m *impl.Machine) { m.Vec = append(m.Vec, 0) }}, {"no Vec", func(m *impl.Machine) { m.Vec = nil }},
		{"register 0", func(m *impl.Machine) { m.Regs[0] = 1 }},
		{"status 32", func(m *impl.Machine) { m.Ctl[impl.CtlStatus] = 32 }},
		{"CtlCount", func(m *impl.Machine) { m.Ctl[impl.CtlCount] = 1 }}, {"CtlPending", func(m *impl.Machine) { m.Ctl[impl.CtlPending] = 1 }}, {"CtlName", func(m *impl.Machine) { m.Ctl[impl.CtlName] = 1212765505 }},
		{"too many Ins", func(m *impl.Machine) { m.Ins = make([]impl.PortValue, 101) }}, {"too many Outs", func(m *impl.Machine) { m.Outs = make([]impl.PortValue, 101) }},
		{"far too many Ins", func(m *impl.Machine) { m.Ins = make([]impl.PortValue, 1001) }},
	}
	for _, mem := range []string{"", "a", emptyMemory(1) + "a", emptyMemory(1)[1:], emptyMemory(256) + "a", emptyMemory(257)} {
		changes = append(changes, machineChange{fmt.Sprintf("Mem of %d bytes", len(mem)), func(m *impl.Machine) { m.Mem = mem }})
	}
	outside := func(what string, wrong []int64, put func(m *impl.Machine, n int64)) {
		for _, n := range wrong {
			changes = append(changes, machineChange{fmt.Sprintf("%s %d", what, n), func(m *impl.Machine) { put(m, n) }})
		}
	}
	noWords := []int64{-1, allOn + 1, math.MinInt64, math.MaxInt64}
	outside("Pc", noWords, func(m *impl.Machine, n int64) { m.Pc = n })
	outside("Mode", []int64{-1, 2, math.MinInt64, math.MaxInt64}, func(m *impl.Machine, n int64) { m.Mode = n })
	outside("State", []int64{-1, 3, math.MinInt64, math.MaxInt64}, func(m *impl.Machine, n int64) { m.State = n })
	outside("Count", []int64{-1, endCount + 1, math.MinInt64, math.MaxInt64}, func(m *impl.Machine, n int64) { m.Count = n })
	outside("Lines", []int64{-1, 128, math.MinInt64, math.MaxInt64}, func(m *impl.Machine, n int64) { m.Lines = n })
	outside("Trace", []int64{-1, 2147483629, math.MinInt64, math.MaxInt64}, func(m *impl.Machine, n int64) { m.Trace = n })
	outside("Port of Ins", []int64{-1, 2048, math.MinInt64, math.MaxInt64}, func(m *impl.Machine, n int64) { m.Ins[2].Port = n })
	outside("Port of Outs", []int64{-1, 2048, math.MinInt64, math.MaxInt64}, func(m *impl.Machine, n int64) { m.Outs[0].Port = n })
	outside("Value of Ins", noWords, func(m *impl.Machine, n int64) { m.Ins[2].Value = n })
	outside("Value of Outs", noWords, func(m *impl.Machine, n int64) { m.Outs[0].Value = n })
	for at := range 16 {
		outside(fmt.Sprintf("Vec %d:", at), noWords, func(m *impl.Machine, n int64) { m.Vec[at] = n })
		outside(fmt.Sprintf("register %d:", at), noWords, func(m *impl.Machine, n int64) { m.Regs[at] = n })
	}
	for at := range 12 {
		outside(fmt.Sprintf("control word %d:", at), noWords, func(m *impl.Machine, n int64) { m.Ctl[at] = n })
	}
	return changes
}

func TestMachineFaultOfRightMachines(t *testing.T) {
	checkNumber(t, "the sample", impl.MachineFault(sampleMachine(0)), impl.OK)
	for _, c := range rightChanges() {
		m := sampleMachine(0)
		c.change(&m)
		checkNumber(t, c.what, impl.MachineFault(m), impl.OK)
	}
}

func TestWrongMachinesAreRefused(t *testing.T) {
	checkNumber(t, "the zero machine", impl.MachineFault(impl.Machine{}), impl.ErrForm)
	for _, c := range wrongChanges() {
		m := sampleMachine(0)
		c.change(&m)
		checkNumber(t, c.what, impl.MachineFault(m), impl.ErrForm)
		checkStepped(t, c.what+": StepMachine", impl.StepMachine(m), impl.Stepped{Code: impl.ErrForm})
		checkRun(t, c.what+": RunMachine", impl.RunMachine(m, 3), impl.MachineRun{Code: impl.ErrForm})
		checkMachine(t, c.what+": RaiseLine", impl.RaiseLine(m, 3), impl.Machine{})
		checkMachine(t, c.what+": RaiseLine of none", impl.RaiseLine(m, 9), impl.Machine{})
	}
}

func checkRun(t *testing.T, what string, got impl.MachineRun, want impl.MachineRun) {
	t.Helper()
	checkNumbers(t, what+": Code, Steps", []int64{got.Code, got.Steps}, []int64{want.Code, want.Steps})
	checkMachine(t, what, got.Machine, want.Machine)
}

func TestRaiseLine(t *testing.T) {
	for _, lines := range []int64{0, 1, 0x55, 127} {
		for _, line := range []int64{0, 1, 2, 3, 4, 5, 6} {
			m := sampleMachine(0)
			m.Lines = lines
			want := copyMachine(m)
			want.Lines |= 1 << line
			checkMachine(t, fmt.Sprintf("line %d with %#x", line, lines), impl.RaiseLine(m, line), want)
			checkNumber(t, "what was handed in", m.Lines, lines)
		}
		for _, line := range []int64{-1, 7, 8, 63, 64, math.MinInt64, math.MaxInt64} {
			m := sampleMachine(0)
			m.Lines = lines
			checkMachine(t, fmt.Sprintf("line %d with %#x", line, lines), impl.RaiseLine(m, line), m)
		}
	}
	for _, state := range []int64{impl.StateWait, impl.StateHalt} {
		m := sampleMachine(0)
		m.State, m.Count = state, endCount
		want := copyMachine(m)
		want.Lines |= 2
		checkMachine(t, fmt.Sprintf("in state %d", state), impl.RaiseLine(m, 1), want)
	}
}

func TestAnswersOfMachinesAreNewMemory(t *testing.T) {
	m := sampleMachine(wordOfInstr(impl.Instr{Op: impl.OpFlush}))
	before := copyMachine(m)
	spoil := func(a impl.Machine) {
		a.Regs[1], a.Ctl[1], a.Vec[1], a.Ins[0].Value, a.Outs[0].Value = 1, 2, 3, 4, 5
		_ = append(a.Outs[:0], impl.PortValue{Port: 9})
	}
	spoil(impl.RaiseLine(m, 1))
	spoil(impl.RaiseLine(m, 9))
	spoil(impl.StepMachine(m).Machine)
	spoil(impl.RunMachine(m, 0).Machine)
	spoil(impl.RunMachine(m, 2).Machine)
	halted := m
	halted.State = impl.StateHalt
	spoil(impl.StepMachine(halted).Machine)
	spoil(impl.RunMachine(halted, 2).Machine)
	checkMachine(t, "what was handed in", m, before)
}

// An Out that is told must not come behind the list that was handed in, where that has room.
func TestOutsBehindAListWithRoom(t *testing.T) {
	m := sampleMachine(wordOfInstr(impl.Instr{Op: impl.OpOut, A: 1, Imm: 3}))
	room := make([]impl.PortValue, 3, 10)
	m.Outs = room
	impl.StepMachine(m)
	impl.RunMachine(m, 1)
	checkPorts(t, "the room", room[:4], make([]impl.PortValue, 4))
}

func TestHaltedMachinesStayAsTheyAre(t *testing.T) {
	for _, count := range []int64{0, 5000, endCount - 1, endCount} {
		m := sampleMachine(wordOfText(t, "addi r1, r0, 1"))
		m.State, m.Count, m.Mode = impl.StateHalt, count, impl.ModeUser
		m.Lines, m.Ctl[impl.CtlEnable], m.Ctl[impl.CtlTimer] = 127, allOn, 1
		what := fmt.Sprintf("halted at Count %d", count)
		checkStepped(t, what, impl.StepMachine(m), impl.Stepped{Machine: m, Pc: m.Pc})
		checkRun(t, what, impl.RunMachine(m, 0), impl.MachineRun{Machine: m})
		checkRun(t, what, impl.RunMachine(m, impl.MaxSteps), impl.MachineRun{Machine: m})
	}
}

func TestCountAtItsEnd(t *testing.T) {
	for _, state := range []int64{impl.StateGo, impl.StateWait} {
		m := sampleMachine(wordOfText(t, "addi r1, r0, 1"))
		m.State, m.Count, m.Lines, m.Ctl[impl.CtlTimer] = state, endCount, 0, 0
		checkStepped(t, "at the end", impl.StepMachine(m), impl.Stepped{Code: impl.ErrLimit})
		checkRun(t, "no step at the end", impl.RunMachine(m, 0), impl.MachineRun{Machine: m})
		checkRun(t, "one step at the end", impl.RunMachine(m, 1), impl.MachineRun{Code: impl.ErrLimit})
		m.Count = endCount - 1
		checkStepped(t, "ahead of the end", impl.StepMachine(m), plainStep(m))
		checkNumber(t, "Count", impl.StepMachine(m).Machine.Count, endCount)
		checkRun(t, "one step to the end", impl.RunMachine(m, 1), impl.MachineRun{Machine: plainStep(m).Machine, Steps: 1})
		checkRun(t, "two steps to the end", impl.RunMachine(m, 2), impl.MachineRun{Code: impl.ErrLimit})
	}
	m := sampleMachine(wordOfText(t, "halt"))
	m.Count = endCount - 1
	checkRun(t, "a halt at the end", impl.RunMachine(m, 9), impl.MachineRun{Machine: plainStep(m).Machine, Steps: 1})
	m.Count, m.State, m.Ctl[impl.CtlEnable] = endCount, impl.StateWait, 1
	checkStepped(t, "a line at the end", impl.StepMachine(m), impl.Stepped{Code: impl.ErrLimit})
}

func TestRunMachineRefusesWrongSteps(t *testing.T) {
	for _, state := range []int64{impl.StateGo, impl.StateWait, impl.StateHalt} {
		m := sampleMachine(0)
		m.State = state
		for _, steps := range []int64{-1, impl.MaxSteps + 1, math.MinInt64, math.MaxInt64} {
			checkRun(t, fmt.Sprintf("%d steps", steps), impl.RunMachine(m, steps), impl.MachineRun{Code: impl.ErrForm})
		}
		m.Count = endCount
		checkRun(t, "wrong steps at the end of Count", impl.RunMachine(m, impl.MaxSteps+1), impl.MachineRun{Code: impl.ErrForm})
	}
}

// loadMachine is a machine with a program at its beginning.
func loadMachine(t *testing.T, frames int, text string) impl.Machine {
	t.Helper()
	a := impl.Assemble(text, 0)
	if a.Code != impl.OK {
		t.Fatalf("line %d is refused with %d", a.Line, a.Code)
	}
	return impl.NewMachine(fourWords(emptyMemory(frames), 0, a.Words))
}

// busyText is a program of a kernel that is stopped by lines and the timer and goes on with a user behind a table.
const busyText = `
 addi r1, r0, @trap
 putc r1, 4
 addi r1, r0, 255
 putc r1, 10
 addi r1, r0, 40
 putc r1, 7
 addi r1, r0, 6
 putc r1, 6
 addi r1, r0, 26
 putc r1, 0
 addi r1, r0, @user
 putc r1, 1
 addi r2, r0, 1024
 addi r5, r0, 3
 addi r15, r0, 0
 ret
trap:
 getc r10, 2
 getc r11, 8
 andi r14, r15, 15
 add r11, r11, r14
 addi r11, r11, 11
 putc r11, 7
 in r12, 7
 out r10, 9
 addi r15, r15, 1
 addi r13, r0, 30
 eq r15, r13, @stop
 ret
stop:
 wait
 halt
user:
 addi r3, r3, 7
 store r3, r2, 0
 fadd r4, r2, r5
 vload v1, r2
 vadd v2, v1, v2
 vstore v2, r2
 xor r6, r6, r4
 addi r7, r7, 1
 sys
 storeb r7, r2, 5
 eq r0, r0, @user
`

func busyMachine(t *testing.T) impl.Machine {
	t.Helper()
	m := loadMachine(t, 8, busyText)
	user, kernel := int64(flagV|flagR|flagX|flagU), int64(flagV|flagR|flagX)
	m.Mem = withEntries(m.Mem, tableEntry{6, 0, 7, flagV},
		tableEntry{7, 0, 0, kernel}, tableEntry{7, 1, 0, user}, tableEntry{7, 4, 4, flagV | flagR | flagW | flagU})
	m.Ins = []impl.PortValue{{Port: 7, Value: 1}, {Port: 7, Value: 2}, {Port: 6, Value: 3}}
	m.Lines = 0x22
	at := wordAt(m.Mem, 40)
	// The user's page is the kernel's frame once more, one page further on.
	m.Mem = withWord(m.Mem, 40, at+256)
	return m
}

// The busy machine must be busy, or the tests that run it tell nothing.
func TestBusyMachineIsBusy(t *testing.T) {
	r := impl.RunMachine(busyMachine(t), 2000)
	causes := map[int64]bool{}
	for _, out := range r.Machine.Outs {
		causes[out.Value] = true
	}
	for _, cause := range []int64{impl.CauseSys, impl.CauseLine + 1, impl.CauseLine + 5, impl.CauseLine + 7} {
		if !causes[cause] {
			t.Errorf("no trap by %d: %v", cause, r.Machine.Outs)
		}
	}
	if r.Machine.State != impl.StateHalt && r.Machine.State != impl.StateWait || r.Machine.Mem[1024:1040] == emptyMemory(1)[:16] {
		t.Errorf("state %d, memory %q", r.Machine.State, r.Machine.Mem[1024:1040])
	}
}

func TestRunIsStepByStep(t *testing.T) {
	m := busyMachine(t)
	steps := int64(0)
	for m.State != impl.StateHalt && steps < 400 {
		next := plainStep(m)
		checkStepped(t, fmt.Sprintf("step %d", steps), impl.StepMachine(m), next)
		if t.Failed() {
			return
		}
		m = next.Machine
		steps++
		if steps%37 == 0 {
			checkRun(t, fmt.Sprintf("%d steps", steps), impl.RunMachine(busyMachine(t), steps), impl.MachineRun{Machine: m, Steps: steps})
		}
	}
}

func TestRunEndsAheadOfAStepInHalt(t *testing.T) {
	m := loadMachine(t, 1, "addi r1, r0, 5\nadd r2, r1, r1\nhalt\naddi r1, r0, 1")
	for _, steps := range []int64{3, 4, 100, impl.MaxSteps} {
		r := impl.RunMachine(m, steps)
		checkNumbers(t, "Steps, State, Count, Pc", []int64{r.Steps, r.Machine.State, r.Machine.Count, r.Machine.Pc}, []int64{3, impl.StateHalt, 3, 12})
	}
	r := impl.RunMachine(m, 2)
	checkNumbers(t, "Steps, State, Count, Pc", []int64{r.Steps, r.Machine.State, r.Machine.Count, r.Machine.Pc}, []int64{2, impl.StateGo, 2, 8})
}

func TestRunWhileWaiting(t *testing.T) {
	m := loadMachine(t, 1, "wait\nhalt")
	r := impl.RunMachine(m, impl.MaxSteps)
	checkNumbers(t, "Steps, State, Count, Pc", []int64{r.Steps, r.Machine.State, r.Machine.Count, r.Machine.Pc}, []int64{impl.MaxSteps, impl.StateWait, impl.MaxSteps, 4})
}

// checkParts holds two runs against one.
func checkParts(t *testing.T, what string, m impl.Machine, first int64, second int64) {
	t.Helper()
	one := impl.RunMachine(m, first)
	if one.Code != impl.OK {
		return
	}
	checkNumber(t, what+": MachineFault of the first part", impl.MachineFault(one.Machine), impl.OK)
	two := impl.RunMachine(one.Machine, second)
	if two.Code != impl.OK {
		return
	}
	checkNumber(t, what+": MachineFault of both", impl.MachineFault(two.Machine), impl.OK)
	two.Steps += one.Steps
	checkRun(t, fmt.Sprintf("%s in parts of %d and %d", what, first, second), two, impl.RunMachine(m, first+second))
}

func TestP9RunsInTwoParts(t *testing.T) {
	m := busyMachine(t)
	for first := range int64(120) {
		checkParts(t, "busy", m, first, 120-first)
	}
	for _, first := range []int64{0, 1, 777, 10000, impl.MaxSteps - 1, impl.MaxSteps} {
		checkParts(t, "busy", m, first, impl.MaxSteps-first)
		loop := loadMachine(t, 2, "addi r1, r1, 1\nstore r1, r0, 256\nmul r2, r1, r2\nxori r2, r2, 99\neq r0, r0, -4")
		checkParts(t, "a loop", loop, first, impl.MaxSteps-first)
	}
	for _, state := range []int64{impl.StateWait, impl.StateHalt} {
		waits := sampleMachine(wordOfText(t, "halt"))
		waits.State, waits.Ctl[impl.CtlTimer], waits.Ctl[impl.CtlEnable] = state, 5020, 0x80
		for _, first := range []int64{0, 1, 18, 19, 20, 21, 40} {
			checkParts(t, "waiting or halted", waits, first, 40-first)
		}
	}
}

func TestP9TwoFullRuns(t *testing.T) {
	m := loadMachine(t, 2, "addi r1, r1, 1\nstore r1, r0, 256\neq r0, r0, -2")
	one := impl.RunMachine(m, impl.MaxSteps)
	two := impl.RunMachine(one.Machine, impl.MaxSteps)
	checkNumbers(t, "Steps and Count", []int64{one.Steps, two.Steps, two.Machine.Count}, []int64{impl.MaxSteps, impl.MaxSteps, 2 * impl.MaxSteps})
	checkNumber(t, "what the loop counted", two.Machine.Regs[1], 13334)
	checkNumber(t, "MachineFault", impl.MachineFault(two.Machine), impl.OK)
}

func TestP9OfRandomMachines(t *testing.T) {
	rng := rand.New(rand.NewSource(99))
	instrs := everyInstr()
	for range 150 {
		m := randomMachine(rng, wordOfInstr(instrs[rng.Intn(len(instrs))]))
		words := make([]int64, min(60, len(m.Mem)/8))
		for n := range words {
			words[n] = wordOfInstr(instrs[rng.Intn(len(instrs))])
		}
		m.Mem = fourWords(m.Mem, int64(len(m.Mem)/8*4), words)
		m.Pc = int64(len(m.Mem) / 8 * 4)
		m.Ctl[impl.CtlVector] = m.Pc + 4*rng.Int63n(int64(len(words)))
		for _, first := range []int64{0, 1, 7, 50} {
			checkParts(t, machineText(m), m, first, 50-first)
		}
		checkSteps(t, m, 50)
		if t.Failed() {
			return
		}
	}
}

// checkSteps holds a run against single plain steps, each of which must leave the machine right.
func checkSteps(t *testing.T, m impl.Machine, steps int64) {
	t.Helper()
	run := impl.RunMachine(m, steps)
	done := int64(0)
	for done < steps && m.State != impl.StateHalt {
		if m.Count == endCount {
			checkRun(t, "at the end of Count", run, impl.MachineRun{Code: impl.ErrLimit})
			return
		}
		m = plainStep(m).Machine
		checkNumber(t, "MachineFault", impl.MachineFault(m), impl.OK)
		done++
	}
	checkRun(t, "step by step", run, impl.MachineRun{Machine: m, Steps: done})
}

func TestRunLeavesItsMachine(t *testing.T) {
	m := busyMachine(t)
	before := copyMachine(m)
	first := impl.RunMachine(m, 300)
	checkMachine(t, "what was handed in", m, before)
	checkRun(t, "once more", impl.RunMachine(m, 300), first)
	if slices.Equal(first.Machine.Regs, m.Regs) {
		t.Error("nothing happened")
	}
}

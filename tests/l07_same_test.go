package tests

import (
	"fmt"
	"math"
	"math/rand"
	"slices"
	"strings"
	"testing"

	"loop.example/g00038/impl"
)

func TestP13OfABusyMachine(t *testing.T) {
	m := busyMachine(t)
	n := sampleNest(m)
	for steps := range int64(300) {
		checkNestedSame(t, fmt.Sprintf("%d steps", steps), n, m, steps)
	}
	for _, steps := range []int64{400, 777, 1000} {
		checkNestedPlain(t, fmt.Sprintf("%d steps", steps), n, m, steps)
	}
	for _, steps := range []int64{2000, 9999, impl.MaxSteps - 1, impl.MaxSteps} {
		checkNestedSame(t, fmt.Sprintf("%d steps", steps), n, m, steps)
	}
}

// In two parts all frames come in anew, into another host, but the machine comes to the same.
func TestP13InTwoParts(t *testing.T) {
	m := busyMachine(t)
	n := sampleNest(m)
	whole := impl.RunMachine(m, 240)
	for first := int64(0); first <= 240; first += 7 {
		one := runIn(n, m, first)
		two := checkNestedSame(t, fmt.Sprintf("the others behind %d steps", first), n, one.Machine, 240-first)
		got := impl.MachineRun{Code: two.Code, Machine: two.Machine, Steps: one.Steps + two.Steps}
		checkRun(t, fmt.Sprintf("%d steps and the others", first), got, whole)
	}
}

func TestP13OfRandomMachines(t *testing.T) {
	rng := rand.New(rand.NewSource(31))
	codes := map[int64]int{}
	touches, dirty, pages, users := int64(0), 0, 0, 0
	for range 400 {
		m := shadowMachine(rng)
		size := 2 + rng.Intn(60)
		got, _ := checkNestedPlain(t, machineText(m), randomNest(rng, size, rng.Intn(size)), m, 100)
		if t.Failed() {
			return
		}
		codes[got.Code]++
		touches, dirty = touches+got.Touches, dirty+len(got.Dirty)
		pages += int(m.Ctl[impl.CtlStatus] / impl.StatusPaged)
		users += int(1 - m.Mode)
	}
	// Runs in which nothing happens would tell nothing.
	if codes[impl.OK] < 200 || codes[impl.ErrCount] < 50 || touches < 500 || dirty < 200 || pages < 150 || users < 100 {
		t.Errorf("too little happens: codes %v, Touches %d, Dirty %d, with pages %d, as users %d", codes, touches, dirty, pages, users)
	}
}

// These machines have each kind of instruction at whatever places, tables that lead anywhere, and a Count near its end.
func TestP13OfRandomMachinesOfStage4(t *testing.T) {
	rng := rand.New(rand.NewSource(32))
	instrs := everyInstr()
	for range 400 {
		m := randomMachine(rng, wordOfInstr(instrs[rng.Intn(len(instrs))]))
		m.Ctl[impl.CtlVector] = 4 * rng.Int63n(int64(len(m.Mem)/4))
		m.Count = []int64{m.Count, endCount - 41, endCount - 40, endCount - 39}[rng.Intn(4)]
		checkNestedPlain(t, machineText(m), randomNest(rng, 40, []int{1, 4, 39, 39}[rng.Intn(4)]), m, 40)
		if t.Failed() {
			return
		}
	}
}

// Each op is there with its first instruction, and with some of its others.
func TestP13OfEveryOp(t *testing.T) {
	seen := map[int64]bool{}
	for at, i := range everyInstr() {
		if seen[i.Op] && at%8 > 0 {
			continue
		}
		seen[i.Op] = true
		for kind := range int64(8) {
			m := sampleMachine(wordOfInstr(i))
			if kind%2 == 1 {
				m = pagedMachine(kind/2%2, wordOfInstr(i))
			}
			m.Mode = kind / 2 % 2
			m.Ctl[impl.CtlStatus] = m.Ctl[impl.CtlStatus]&^impl.StatusVec | impl.StatusVec*(kind/4)
			m.Regs[1], m.Regs[2], m.Regs[15] = dataAt, openPage, readPage+16
			checkNestedPlain(t, fmt.Sprintf("%+v, kind %d", i, kind), sampleNest(m), m, 4)
		}
		if t.Failed() {
			return
		}
	}
}

func TestP13OfLinesAndTheTimer(t *testing.T) {
	for kind := range int64(4) {
		for _, lines := range []int64{0, 1, 0x50, 127} {
			for timer := range int64(12) {
				m := loadMachine(t, 2, "addi r1, r1, 1\naddi r1, r1, 2\nsys\nwait\neq r0, r0, -4\nret")
				m.Mode, m.Ctl[impl.CtlStatus] = kind%2, kind/2*impl.StatusOn
				m.Lines, m.Ctl[impl.CtlEnable], m.Ctl[impl.CtlTimer], m.Ctl[impl.CtlVector] = lines, 0xd1, timer, 20
				what := fmt.Sprintf("mode %d, status %d, lines %#x, timer %d", m.Mode, kind/2, lines, timer)
				checkNestedPlain(t, what, sampleNest(m), m, 60)
			}
		}
	}
}

// Where the guest's frames come to shows in Host and Free alone.
func TestP13WhateverIsFree(t *testing.T) {
	m := busyMachine(t)
	want := runIn(sampleNest(m), m, 300)
	rng := rand.New(rand.NewSource(33))
	for _, size := range []int{8, 9, 12, 100, 256} {
		for range 6 {
			n := randomNest(rng, size, 6+rng.Intn(size-6))
			what := fmt.Sprintf("root %d, free %v of %d frames", n.root, n.free, size)
			got, _ := checkNestedPlain(t, what, n, m, 300)
			checkNumbers(t, what+": Touches, Steps", []int64{got.Touches, got.Steps}, []int64{want.Touches, want.Steps})
			checkNumbers(t, what+": Dirty", got.Dirty, want.Dirty)
			checkNumbers(t, what+": Free", got.Free, n.free[want.Touches+1:])
		}
	}
}

// The least guest has one frame, which comes with its table; a root is all that a host need have for no steps.
func TestP13OfTheLeastMachine(t *testing.T) {
	m := loadMachine(t, 1, "addi r1, r1, 1\nhalt")
	n := nest{host: emptyMemory(3), root: 1, free: []int64{2, 0}}
	got := checkNestedSame(t, "three frames", n, m, impl.MaxSteps)
	checkText(t, "its host", got.Host, m.Mem+withEntries(emptyMemory(2), tableEntry{0, 0, 2, flagV}, tableEntry{1, 0, 0, flagV | flagR | flagW}))
	n = nest{host: emptyMemory(1)}
	checkNestedRun(t, "one frame", runIn(n, m, 0), impl.NestedRun{Machine: m, Host: n.host})
	checkNestedCode(t, "one frame and a step", runIn(n, m, 1), impl.ErrCount)
}

// The greatest host has, beside its root and eight tables, room for 247 frames of the greatest guest.
func TestP13OfTheGreatestMachine(t *testing.T) {
	m := loadMachine(t, 256, "load r1, r2, 0\nstore r1, r2, 4\naddi r2, r2, -256\nlo r3, r2, -3\nhalt")
	n := nest{host: plainLaid(emptyMemory(1), []int64{255}, filledMemory(256)), root: 255, free: inARow(0, 255)}
	m.Regs[2], m.Regs[3] = 65280, 65280-246*256
	got := checkNestedSame(t, "all that there is room for", n, m, impl.MaxSteps)
	want, _ := plainNestedRun(n, m, 4*246+1)
	checkNestedRun(t, "all that there is room for", got, want)
	checkNumbers(t, "Touches, dirty ones", []int64{got.Touches, int64(len(got.Dirty))}, []int64{247, 246})
	checkNumbers(t, "the first and the last dirty one", []int64{got.Dirty[0], got.Dirty[245]}, []int64{10, 255})
	checkNumbers(t, "Free", got.Free, nil)
	m.Regs[3] -= 256
	checkNestedCode(t, "one frame more", runIn(n, m, impl.MaxSteps), impl.ErrCount)
}

func TestP13AtTheEndOfCount(t *testing.T) {
	for _, state := range []int64{impl.StateGo, impl.StateWait, impl.StateHalt} {
		for _, count := range []int64{endCount - 3, endCount - 1, endCount} {
			m := loadMachine(t, 1, "addi r1, r1, 1\neq r0, r0, -1")
			m.State, m.Count = state, count
			for _, steps := range []int64{-1, 0, 1, 2, 3, 4, impl.MaxSteps, impl.MaxSteps + 1} {
				what := fmt.Sprintf("state %d, Count %d, %d steps", state, count, steps)
				checkNestedSame(t, what, sampleNest(m), m, steps)
			}
		}
	}
	m := loadMachine(t, 1, "addi r1, r1, 1\neq r0, r0, -1")
	m.Count = endCount - 1
	checkNested(t, "one step to the end", m, 1, []int64{0}, nil)
	checkNestedCode(t, "two steps to the end", runIn(sampleNest(m), m, 2), impl.ErrLimit)
	m.Count = endCount
	checkNested(t, "no step at the end", m, 0, nil, nil)
	checkNestedCode(t, "one step at the end", runIn(sampleNest(m), m, 1), impl.ErrLimit)
}

func TestP13OfMachinesThatWaitOrHalt(t *testing.T) {
	for _, state := range []int64{impl.StateWait, impl.StateHalt} {
		m := sampleMachine(wordOfText(t, "addi r1, r1, 1"))
		m.State, m.Lines, m.Ctl[impl.CtlTimer] = state, 0, 0
		for _, steps := range []int64{0, 1, 50} {
			got := checkNested(t, fmt.Sprintf("state %d, %d steps", state, steps), m, steps, nil, nil)
			checkText(t, "a host that nothing came into", got.Host, sampleNest(m).host)
		}
		checkNestedSame(t, fmt.Sprintf("state %d", state), sampleNest(m), m, impl.MaxSteps)
	}
}

func TestP13OfMachinesAtTheirBounds(t *testing.T) {
	for _, c := range rightChanges() {
		m := sampleMachine(wordOfText(t, "addi r1, r1, 1"))
		c.change(&m)
		checkNestedSame(t, c.what, sampleNest(m), m, 5)
	}
}

func TestRunNestedRefusesWrongSteps(t *testing.T) {
	for _, state := range []int64{impl.StateGo, impl.StateWait, impl.StateHalt} {
		for _, count := range []int64{0, endCount} {
			m := sampleMachine(0)
			m.State, m.Count = state, count
			for _, steps := range []int64{-1, impl.MaxSteps + 1, math.MinInt64, math.MaxInt64} {
				what := fmt.Sprintf("%d steps", steps)
				checkNestedCode(t, what, runIn(sampleNest(m), m, steps), impl.ErrForm)
				checkNestedCode(t, what+", no host", runIn(nest{}, m, steps), impl.ErrForm)
			}
		}
	}
}

func TestRunNestedRefusesWrongMachines(t *testing.T) {
	n := sampleNest(sampleMachine(0))
	checkNestedCode(t, "the zero machine", runIn(n, impl.Machine{}, 1), impl.ErrForm)
	checkNestedCode(t, "nothing at all", runIn(nest{}, impl.Machine{}, 0), impl.ErrForm)
	for _, c := range wrongChanges() {
		m := sampleMachine(0)
		c.change(&m)
		for _, steps := range []int64{-1, 0, 3} {
			checkNestedCode(t, c.what, runIn(n, m, steps), impl.ErrForm)
			checkNestedCode(t, c.what+", a wrong host", runIn(nest{host: "a"}, m, steps), impl.ErrForm)
		}
	}
}

// wrongNests have one fault each, and would be enough without it.
func wrongNests() map[string]nest {
	twelve, free := emptyMemory(12), []int64{3, 4, 5, 6, 7}
	set := func(at int) string { return twelve[:512+at] + "a" + twelve[513+at:] }
	return map[string]nest{
		"no host":                    {"", 2, free},
		"no host, root or free":      {"", 0, nil},
		"part of a frame":            {twelve[1:], 2, free},
		"a byte more":                {twelve + "\x00", 2, free},
		"root below 0":               {twelve, -1, free},
		"the least root":             {twelve, math.MinInt64, free},
		"root behind the last":       {twelve, 12, free},
		"root 256":                   {emptyMemory(256), 256, free},
		"the greatest root":          {twelve, math.MaxInt64, free},
		"a first frame below 0":      {twelve, 2, []int64{-1, 4, 5, 6, 7}},
		"a last frame below 0":       {twelve, 2, []int64{3, 4, 5, 6, 7, 8, 9, 10, -1}},
		"the least frame":            {twelve, 2, []int64{3, 4, math.MinInt64, 6, 7}},
		"a frame behind the last":    {twelve, 2, []int64{3, 4, 5, 12, 7}},
		"frame 256":                  {emptyMemory(256), 2, []int64{3, 4, 256}},
		"the greatest frame":         {twelve, 2, []int64{3, 4, 5, 6, math.MaxInt64}},
		"two alike":                  {twelve, 2, []int64{3, 3, 4, 5, 6}},
		"two alike, not neighbours":  {twelve, 2, []int64{3, 4, 5, 6, 7, 8, 3}},
		"root is the first":          {twelve, 2, []int64{2, 3, 4, 5, 6}},
		"root is the last":           {twelve, 2, []int64{3, 4, 5, 6, 7, 2}},
		"root 0 is free":             {twelve, 0, []int64{3, 4, 5, 0}},
		"more than there are":        {twelve, 2, inARow(3, 13)},
		"MaxList":                    {emptyMemory(256), 2, inARow(3, impl.MaxList)},
		"root's first byte":          {set(0), 2, free},
		"root's last entry":          {set(127), 2, free},
		"root behind its entries":    {set(128), 2, free},
		"root's last byte":           {set(255), 2, free},
		"a root that is a table":     {withEntries(twelve, tableEntry{2, 0, 8, flagV}), 2, free},
		"a root that maps elsewhere": {withEntries(twelve, tableEntry{2, 31, 0, flagV | flagR}), 2, free},
	}
}

// The codes of the run come ahead of those of the host.
func TestRunNestedRefusesWrongHosts(t *testing.T) {
	m := sampleMachine(wordOfText(t, "addi r1, r1, 1"))
	ended := copyMachine(m)
	ended.Count = endCount - 1
	halted := copyMachine(ended)
	halted.State = impl.StateHalt
	for what, n := range wrongNests() {
		for _, steps := range []int64{-1, 0, 1, 3, impl.MaxSteps, impl.MaxSteps + 1} {
			checkNestedCode(t, fmt.Sprintf("%s, %d steps", what, steps), runIn(n, m, steps), impl.ErrForm)
		}
		checkNestedCode(t, what+", a wrong machine", runIn(n, impl.Machine{}, 3), impl.ErrForm)
		checkNestedCode(t, what+", one step to the end", runIn(n, ended, 1), impl.ErrForm)
		checkNestedCode(t, what+", halted", runIn(n, halted, 9), impl.ErrForm)
		checkNestedCode(t, what+", at the end of Count", runIn(n, ended, 2), impl.ErrLimit)
		checkNestedCode(t, what+", wrong steps at the end of Count", runIn(n, ended, -1), impl.ErrForm)
	}
}

func TestRunNestedInRightHosts(t *testing.T) {
	m := sampleMachine(wordOfText(t, "addi r1, r1, 1"))
	beside := strings.Repeat("a", 256)
	for what, n := range map[string]nest{
		"root 0":                   {emptyMemory(12), 0, []int64{5, 4}},
		"the last root":            {emptyMemory(12), 11, []int64{0, 10}},
		"the last frame":           {emptyMemory(12), 2, []int64{11, 0}},
		"root 255":                 {emptyMemory(256), 255, []int64{254, 1}},
		"frame 255":                {emptyMemory(256), 0, []int64{255, 254}},
		"all others are free":      {emptyMemory(256), 7, append(inARow(8, 248), inARow(0, 7)...)},
		"all 0 just from its edge": {beside + emptyMemory(1) + beside + beside, 1, []int64{3, 2}},
	} {
		got, _ := checkNestedPlain(t, what, n, m, 1)
		checkNumbers(t, what+": Code, Touches", []int64{got.Code, got.Touches}, []int64{impl.OK, 1})
	}
	for what, free := range map[string][]int64{"no list": nil, "an empty list": {}} {
		n := nest{emptyMemory(12), 2, free}
		checkNestedRun(t, what, runIn(n, m, 0), impl.NestedRun{Machine: m, Host: n.host})
	}
}

func TestRunNestedRefusesWhatIsTooGreat(t *testing.T) {
	m := sampleMachine(wordOfText(t, "addi r1, r1, 1"))
	ended := copyMachine(m)
	ended.Count = endCount
	many, great := inARow(0, impl.MaxList+1), strings.Repeat("\x00", impl.MaxBytes+1)
	n := sampleNest(m)
	for what, one := range map[string]impl.Machine{"a right machine": m, "the zero machine": {}, "one at the end": ended} {
		for _, steps := range []int64{-1, 0, 3} {
			for _, root := range []int64{n.root, -1} {
				checkNestedCode(t, what+", many frames", runIn(nest{n.host, root, many}, one, steps), impl.ErrSize)
				checkNestedCode(t, what+", a great host", runIn(nest{great, root, n.free}, one, steps), impl.ErrSize)
				checkNestedCode(t, what+", both", runIn(nest{great, root, many}, one, steps), impl.ErrSize)
			}
		}
	}
	checkNestedCode(t, "frames that are too many", runIn(nest{n.host, n.root, make([]int64, impl.MaxList+1)}, m, 3), impl.ErrSize)
	checkNestedPlain(t, "as great as may be", nest{great[1:], 2, []int64{9, 8, 7}}, m, 3)
	m.Mem = great
	checkNestedCode(t, "a great memory is not handed in as such", runIn(n, m, 3), impl.ErrForm)
}

// What was brought in stands behind root, so that the host as it has become is none for another run.
func TestAHostIsForOneRun(t *testing.T) {
	m := loadMachine(t, 2, "addi r1, r1, 1\nhalt")
	n := sampleNest(m)
	one := runIn(n, m, 1)
	checkNestedCode(t, "the same root", impl.RunNested(one.Machine, one.Host, n.root, one.Free, 1), impl.ErrForm)
	one = runIn(n, m, 0)
	checkNestedSame(t, "a root that nothing came behind", nest{one.Host, n.root, one.Free}, one.Machine, 1)
}

func TestAnswersOfRunNestedAreNewMemory(t *testing.T) {
	m := sampleMachine(wordOfText(t, "out r1, 3"))
	room := make([]impl.PortValue, 3, 10)
	m.Outs = room
	before, n := copyMachine(m), sampleNest(m)
	own := slices.Clone(n.free)
	for _, state := range []int64{impl.StateGo, impl.StateWait, impl.StateHalt} {
		m.State, before.State = state, state
		for _, steps := range []int64{0, 1, 5} {
			got := runIn(n, m, steps)
			a := got.Machine
			a.Regs[1], a.Ctl[1], a.Vec[1], a.Ins[0].Value, a.Outs[0].Value = 1, 2, 3, 4, 5
			_ = append(a.Outs[:0], impl.PortValue{Port: 9})
			for at := range got.Free {
				got.Free[at] = 99
			}
			_ = append(got.Free, 99)
			checkMachine(t, "what was handed in", m, before)
			checkNumbers(t, "free", n.free, own)
		}
	}
	checkPorts(t, "the room behind Outs", room[:4], make([]impl.PortValue, 4))
	spare := append(slices.Clone(own), 77)[:len(own)]
	got := impl.RunNested(m, n.host, n.root, spare, 3)
	_ = append(got.Free, 99)
	checkNumber(t, "the room behind free", spare[:len(own)+1][len(own)], 77)
}

func TestRunNestedKeepsNothingForTheNextCall(t *testing.T) {
	m := busyMachine(t)
	first := runIn(sampleNest(m), m, 300)
	other := rowMachine(t, 40)
	runIn(sampleNest(other), other, 100)
	checkNestedRun(t, "once more", runIn(sampleNest(m), m, 300), first)
}

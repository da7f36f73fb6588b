package tests

import (
	"fmt"
	"math"
	"math/rand"
	"slices"
	"strings"
	"testing"

	"loop.example/g00038/impl"
)

func TestP12OfABusyMachine(t *testing.T) {
	m := busyMachine(t)
	frames, host := sampleHost(m)
	for steps := range int64(300) {
		checkShadowSame(t, fmt.Sprintf("%d steps", steps), m, steps)
	}
	for _, steps := range []int64{400, 777, 1000} {
		checkShadowRun(t, fmt.Sprintf("%d steps", steps), impl.RunShadow(m, frames, host, steps), plainShadowRun(m, frames, host, steps))
	}
	for _, steps := range []int64{2000, 9999, impl.MaxSteps - 1, impl.MaxSteps} {
		checkShadowSame(t, fmt.Sprintf("%d steps", steps), m, steps)
	}
}

// In two parts all entries are made anew, but the machine comes to the same.
func TestP12InTwoParts(t *testing.T) {
	m := busyMachine(t)
	frames, host := sampleHost(m)
	whole := impl.RunMachine(m, 240)
	for first := int64(0); first <= 240; first += 7 {
		one := impl.RunShadow(m, frames, host, first)
		two := impl.RunShadow(one.Machine, frames, one.Host, 240-first)
		got := impl.MachineRun{Code: two.Code, Machine: two.Machine, Steps: one.Steps + two.Steps}
		checkRun(t, fmt.Sprintf("%d steps and the others", first), got, whole)
		checkPlace(t, fmt.Sprintf("%d steps and the others", first), two, frames, host)
	}
}

func TestP12OfRandomMachines(t *testing.T) {
	rng := rand.New(rand.NewSource(21))
	sums := make([]int64, 7)
	pages, users := 0, 0
	for range 600 {
		m := shadowMachine(rng)
		if impl.MachineFault(m) != impl.OK {
			t.Fatalf("%s: not right", machineText(m))
		}
		got := checkShadowSame(t, machineText(m), m, 100)
		frames, host := sampleHost(m)
		checkShadowRun(t, machineText(m), got, plainShadowRun(m, frames, host, 100))
		if t.Failed() {
			return
		}
		for n, count := range exitsOf(got) {
			sums[n] += count
		}
		pages += int(m.Ctl[impl.CtlStatus] / impl.StatusPaged)
		users += int(1 - m.Mode)
	}
	// Runs in which nothing happens would tell nothing.
	for n, least := range []int64{1000, 100, 50, 200, 10000, 5000, 300} {
		if sums[n] < least {
			t.Errorf("too little happens: Fills, Dirties, Writes, Dropped, Privs, Traps, Lines are %v", sums)
			break
		}
	}
	if pages < 150 || users < 100 {
		t.Errorf("too little happens: with pages %d, as users %d", pages, users)
	}
}

// These machines have each kind of instruction at whatever places, tables that lead anywhere, and a Count near its end.
func TestP12OfRandomMachinesOfStage4(t *testing.T) {
	rng := rand.New(rand.NewSource(22))
	instrs := everyInstr()
	for range 400 {
		m := randomMachine(rng, wordOfInstr(instrs[rng.Intn(len(instrs))]))
		m.Ctl[impl.CtlVector] = 4 * rng.Int63n(int64(len(m.Mem)/4))
		m.Count = []int64{m.Count, endCount - 41, endCount - 40, endCount - 39}[rng.Intn(4)]
		got := checkShadowSame(t, machineText(m), m, 40)
		frames, host := sampleHost(m)
		checkShadowRun(t, machineText(m), got, plainShadowRun(m, frames, host, 40))
		if t.Failed() {
			return
		}
	}
}

func TestP12OfEveryInstruction(t *testing.T) {
	for _, i := range everyInstr() {
		for kind := range int64(8) {
			m := sampleMachine(wordOfInstr(i))
			if kind%2 == 1 {
				m = pagedMachine(kind/2%2, wordOfInstr(i))
			}
			m.Mode = kind / 2 % 2
			m.Ctl[impl.CtlStatus] = m.Ctl[impl.CtlStatus]&^impl.StatusVec | impl.StatusVec*(kind/4)
			m.Regs[1], m.Regs[2], m.Regs[15] = dataAt, openPage, readPage+16
			what := fmt.Sprintf("%+v, kind %d", i, kind)
			frames, host := sampleHost(m)
			checkShadowRun(t, what, checkShadowSame(t, what, m, 4), plainShadowRun(m, frames, host, 4))
		}
		if t.Failed() {
			return
		}
	}
}

func TestP12OfLinesAndTheTimer(t *testing.T) {
	for kind := range int64(4) {
		for _, lines := range []int64{0, 1, 0x50, 127} {
			for timer := range int64(12) {
				m := loadMachine(t, 2, "addi r1, r1, 1\naddi r1, r1, 2\nsys\nwait\neq r0, r0, -4\nret")
				m.Mode, m.Ctl[impl.CtlStatus] = kind%2, kind/2*impl.StatusOn
				m.Lines, m.Ctl[impl.CtlEnable], m.Ctl[impl.CtlTimer], m.Ctl[impl.CtlVector] = lines, 0xd1, timer, 20
				what := fmt.Sprintf("mode %d, status %d, lines %#x, timer %d", m.Mode, kind/2, lines, timer)
				frames, host := sampleHost(m)
				checkShadowRun(t, what, checkShadowSame(t, what, m, 60), plainShadowRun(m, frames, host, 60))
			}
		}
	}
}

// Where the guest's frames lie, and how many others there are, shows in Frame and Host alone.
func TestP12WhereverTheGuestLies(t *testing.T) {
	m := busyMachine(t)
	for _, size := range []int{8, 9, 12, 100, 256} {
		rng := rand.New(rand.NewSource(int64(size)))
		for range 6 {
			var frames []int64
			for _, place := range rng.Perm(size)[:8] {
				frames = append(frames, int64(place))
			}
			what := fmt.Sprintf("at %v of %d frames", frames, size)
			host := filledMemory(size)
			got := impl.RunShadow(m, frames, host, 300)
			checkShadowRun(t, what, got, plainShadowRun(m, frames, host, 300))
			checkPlace(t, what, got, frames, host)
		}
	}
	rising, falling := []int64{0, 1, 2, 3, 4, 5, 6, 7}, []int64{255, 254, 253, 252, 251, 250, 249, 248}
	for _, frames := range [][]int64{rising, falling} {
		got := impl.RunShadow(m, frames, filledMemory(256), 300)
		checkShadowRun(t, "in a row", got, plainShadowRun(m, frames, filledMemory(256), 300))
	}
}

// The greatest machine fills the greatest host, so that no frame is another's.
func TestP12OfTheGreatestMachine(t *testing.T) {
	m := loadMachine(t, 256, "load r1, r2, 0\nstore r1, r3, 0\naddi r2, r2, 256\nlo r2, r4, -3\nhalt")
	m.Regs[3], m.Regs[4] = 65532, 65536
	frames, host := sampleHost(m)
	checkNumber(t, "frames", int64(len(frames)), 256)
	got := checkShadowSame(t, "all frames", m, impl.MaxSteps)
	checkShadowRun(t, "all frames", got, plainShadowRun(m, frames, host, 3000))
}

func TestP12AtTheEndOfCount(t *testing.T) {
	for _, state := range []int64{impl.StateGo, impl.StateWait, impl.StateHalt} {
		for _, count := range []int64{endCount - 3, endCount - 1, endCount} {
			m := loadMachine(t, 1, "addi r1, r1, 1\neq r0, r0, -1")
			m.State, m.Count = state, count
			for _, steps := range []int64{-1, 0, 1, 2, 3, 4, impl.MaxSteps, impl.MaxSteps + 1} {
				checkShadowSame(t, fmt.Sprintf("state %d, Count %d, %d steps", state, count, steps), m, steps)
			}
		}
	}
	m := loadMachine(t, 1, "addi r1, r1, 1\neq r0, r0, -1")
	frames, host := sampleHost(m)
	m.Count = endCount - 1
	checkShadow(t, "one step to the end", m, 1, 1, 0, 0, 0, 0, 0, 0)
	checkShadowRun(t, "two steps to the end", impl.RunShadow(m, frames, host, 2), impl.ShadowRun{Code: impl.ErrLimit})
	m.Count = endCount
	checkShadow(t, "no step at the end", m, 0, 0, 0, 0, 0, 0, 0, 0)
	checkShadowRun(t, "one step at the end", impl.RunShadow(m, frames, host, 1), impl.ShadowRun{Code: impl.ErrLimit})
}

func TestP12OfMachinesThatWaitOrHalt(t *testing.T) {
	for _, state := range []int64{impl.StateWait, impl.StateHalt} {
		m := sampleMachine(wordOfText(t, "addi r1, r1, 1"))
		m.State, m.Lines, m.Ctl[impl.CtlTimer] = state, 0, 0
		for _, steps := range []int64{0, 1, 50} {
			checkShadow(t, fmt.Sprintf("state %d, %d steps", state, steps), m, steps, 0, 0, 0, 0, 0, 0, 0)
		}
		checkShadowSame(t, fmt.Sprintf("state %d", state), m, impl.MaxSteps)
	}
}

func TestRunShadowRefusesWrongSteps(t *testing.T) {
	for _, state := range []int64{impl.StateGo, impl.StateWait, impl.StateHalt} {
		for _, count := range []int64{0, endCount} {
			m := sampleMachine(0)
			m.State, m.Count = state, count
			frames, host := sampleHost(m)
			for _, steps := range []int64{-1, impl.MaxSteps + 1, math.MinInt64, math.MaxInt64} {
				what := fmt.Sprintf("%d steps", steps)
				checkShadowRun(t, what, impl.RunShadow(m, frames, host, steps), impl.ShadowRun{Code: impl.ErrForm})
				checkShadowRun(t, what+", no frames", impl.RunShadow(m, nil, host, steps), impl.ShadowRun{Code: impl.ErrForm})
			}
		}
	}
}

func TestRunShadowRefusesWrongMachines(t *testing.T) {
	frames, host := sampleHost(sampleMachine(0))
	checkShadowRun(t, "the zero machine", impl.RunShadow(impl.Machine{}, frames, host, 1), impl.ShadowRun{Code: impl.ErrForm})
	checkShadowRun(t, "nothing at all", impl.RunShadow(impl.Machine{}, nil, "", 0), impl.ShadowRun{Code: impl.ErrForm})
	for _, c := range wrongChanges() {
		m := sampleMachine(0)
		c.change(&m)
		for _, steps := range []int64{-1, 0, 3} {
			checkShadowRun(t, c.what, impl.RunShadow(m, frames, host, steps), impl.ShadowRun{Code: impl.ErrForm})
		}
	}
}

func TestP12OfMachinesAtTheirBounds(t *testing.T) {
	for _, c := range rightChanges() {
		m := sampleMachine(wordOfText(t, "addi r1, r1, 1"))
		c.change(&m)
		checkShadowSame(t, c.what, m, 5)
	}
}

// The codes of the run come ahead of that of the place, and those of what is too great ahead of both.
func TestRunShadowRefusesWrongPlaces(t *testing.T) {
	m := sampleMachine(wordOfText(t, "addi r1, r1, 1"))
	ended := copyMachine(m)
	ended.Count = endCount - 1
	late := copyMachine(ended)
	late.State = impl.StateHalt
	for _, p := range wrongLays() {
		if len(p.frames) > impl.MaxList || len(p.host) > impl.MaxBytes {
			continue
		}
		m.Mem, ended.Mem, late.Mem = p.mem, p.mem, p.mem
		want := int64(impl.ErrForm)
		checkShadowRun(t, p.what, impl.RunShadow(m, p.frames, p.host, 3), impl.ShadowRun{Code: want})
		checkShadowRun(t, p.what+", no steps", impl.RunShadow(m, p.frames, p.host, 0), impl.ShadowRun{Code: want})
		checkShadowRun(t, p.what+", steps -1", impl.RunShadow(m, p.frames, p.host, -1), impl.ShadowRun{Code: want})
		checkShadowRun(t, p.what+", one step to the end", impl.RunShadow(ended, p.frames, p.host, 1), impl.ShadowRun{Code: want})
		checkShadowRun(t, p.what+", halted", impl.RunShadow(late, p.frames, p.host, 9), impl.ShadowRun{Code: want})
		if impl.MemFault(p.mem) == impl.OK {
			want = impl.ErrLimit
		}
		checkShadowRun(t, p.what+", at the end of Count", impl.RunShadow(ended, p.frames, p.host, 2), impl.ShadowRun{Code: want})
	}
}

func TestRunShadowRefusesWhatIsTooGreat(t *testing.T) {
	m := sampleMachine(0)
	frames, host := sampleHost(m)
	ended := copyMachine(m)
	ended.Count = endCount
	many, great := make([]int64, impl.MaxList+1), strings.Repeat("\x00", impl.MaxBytes+1)
	for what, one := range map[string]impl.Machine{"a right machine": m, "the zero machine": {}, "one at the end": ended} {
		for _, steps := range []int64{-1, 0, 3} {
			checkShadowRun(t, what+", many frames", impl.RunShadow(one, many, host, steps), impl.ShadowRun{Code: impl.ErrSize})
			checkShadowRun(t, what+", a great host", impl.RunShadow(one, frames, great, steps), impl.ShadowRun{Code: impl.ErrSize})
			checkShadowRun(t, what+", both", impl.RunShadow(one, many, great, steps), impl.ShadowRun{Code: impl.ErrSize})
		}
	}
	checkShadowRun(t, "as many as may be", impl.RunShadow(m, many[1:], host, 3), impl.ShadowRun{Code: impl.ErrForm})
	checkShadowRun(t, "as great as may be", impl.RunShadow(m, frames, great[1:], 3), plainShadowRun(m, frames, great[1:], 3))
	m.Mem = great
	checkShadowRun(t, "a great memory is not handed in as such", impl.RunShadow(m, frames, host, 3), impl.ShadowRun{Code: impl.ErrForm})
}

func TestAnswersOfRunShadowAreNewMemory(t *testing.T) {
	m := sampleMachine(wordOfText(t, "out r1, 3"))
	room := make([]impl.PortValue, 3, 10)
	m.Outs = room
	before := copyMachine(m)
	frames, host := sampleHost(m)
	own := slices.Clone(frames)
	for _, state := range []int64{impl.StateGo, impl.StateWait, impl.StateHalt} {
		m.State, before.State = state, state
		for _, steps := range []int64{0, 1, 5} {
			a := impl.RunShadow(m, frames, host, steps).Machine
			a.Regs[1], a.Ctl[1], a.Vec[1], a.Ins[0].Value, a.Outs[0].Value = 1, 2, 3, 4, 5
			_ = append(a.Outs[:0], impl.PortValue{Port: 9})
			checkMachine(t, "what was handed in", m, before)
		}
	}
	checkPorts(t, "the room behind Outs", room[:4], make([]impl.PortValue, 4))
	checkNumbers(t, "frames", frames, own)
}

// The tables of each entry are its own ones.
func TestTablesOfEntriesShareNothing(t *testing.T) {
	m := tableMachine(t, "load r1, r0, 512\nload r1, r0, 256\nstore r1, r0, 512\nhalt", 0, 0, 0)
	frames, host := sampleHost(m)
	want := plainShadowRun(m, frames, host, 9).Entries
	got := impl.RunShadow(m, frames, host, 9).Entries
	checkNumber(t, "entries", int64(len(got)), 3)
	for n := range got {
		_ = append(got[n].Tables, 77, 77)
		got[n].Tables[0], got[n].Tables[1] = 99, 99
		for k := n + 1; k < len(got); k++ {
			checkNumbers(t, fmt.Sprintf("tables of %d behind a change of %d", k, n), got[k].Tables, want[k].Tables)
		}
	}
}

func TestRunShadowKeepsNothingForTheNextCall(t *testing.T) {
	m := busyMachine(t)
	frames, host := sampleHost(m)
	first := impl.RunShadow(m, frames, host, 300)
	other := rowMachine(t, 40)
	otherFrames, otherHost := sampleHost(other)
	impl.RunShadow(other, otherFrames, otherHost, 100)
	checkShadowRun(t, "once more", impl.RunShadow(m, frames, host, 300), first)
}

package tests

import (
	"fmt"
	"math/rand"
	"slices"
	"testing"

	"loop.example/g00038/impl"
)

// pcFetch are the uses of a step that came to its fetch, with those behind it.
func pcFetch(m impl.Machine, more ...int64) []int64 {
	return append([]int64{m.Pc, impl.AccFetch}, more...)
}

// trapped is the machine behind a trap, as the chapter says it, but for Trace and what a lookup put.
func trapped(m impl.Machine, from int64, cause int64, value int64) impl.Machine {
	want := copyMachine(m)
	want.Count++
	want.Pc = from
	plainTrap(&want, cause, value)
	return want
}

// checkTrap holds a step that traps against all that is told of it; mem is what lookups have made of memory by then.
func checkTrap(t *testing.T, what string, m impl.Machine, mem string, want impl.Stepped, from int64, value int64) {
	t.Helper()
	if code := impl.MachineFault(m); code != impl.OK {
		t.Fatalf("%s: the machine ahead of the step is not right", what)
	}
	want.Machine = trapped(m, from, want.Cause, value)
	want.Machine.Mem = mem
	want.Pc = m.Pc
	a := int64(0)
	if read := impl.Decode(want.Word); read.Good {
		a = m.Regs[read.Instr.A]
	}
	want.Machine.Trace = traceOf(m.Trace, m.Pc, want.Word, want.Cause, a)
	got := impl.StepMachine(m)
	checkStepped(t, what, got, want)
	checkNumber(t, what+": MachineFault", impl.MachineFault(got.Machine), impl.OK)
}

// checkTrapped is for machines without pages whose instruction is read.
func checkTrapped(t *testing.T, what string, m impl.Machine, cause int64, value int64, uses ...int64) {
	t.Helper()
	checkTrap(t, what, m, m.Mem, impl.Stepped{Word: wordAt(m.Mem, samplePc), Cause: cause, Uses: uses}, m.Pc, value)
}

func TestTrapPutsStatusAndMode(t *testing.T) {
	for status := range int64(32) {
		for _, mode := range []int64{impl.ModeUser, impl.ModeKernel} {
			m := sampleMachine(0)
			m.Mode = mode
			m.Ctl[impl.CtlStatus] = status &^ impl.StatusPaged
			got := impl.StepMachine(m).Machine
			want := status & 8
			if status&1 != 0 {
				want += 2
			}
			if mode == impl.ModeKernel {
				want += 4
			}
			checkNumbers(t, fmt.Sprintf("status %d in mode %d", status, mode), []int64{got.Ctl[impl.CtlStatus], got.Mode, got.Pc}, []int64{want, impl.ModeKernel, 0x300})
			checkNumbers(t, "From, Cause, Value", got.Ctl[1:4], []int64{samplePc, impl.CauseIllegal, 0})
		}
	}
}

func TestTrapLeavesPagesOn(t *testing.T) {
	m := pagedMachine(impl.ModeUser, wordOfText(t, "sys"))
	got := impl.StepMachine(m).Machine
	checkNumber(t, "status", got.Ctl[impl.CtlStatus], impl.StatusPaged|impl.StatusVec)
	checkNumber(t, "Cause", impl.StepMachine(got).Cause, impl.CauseFetch)
}

func TestTrapOfSysAndHyper(t *testing.T) {
	for _, mode := range []int64{impl.ModeUser, impl.ModeKernel} {
		m := sampleMachine(wordOfText(t, "sys"))
		m.Mode = mode
		checkTrap(t, "sys", m, m.Mem, impl.Stepped{Word: wordAt(m.Mem, samplePc), Cause: impl.CauseSys, Uses: pcFetch(m)}, samplePc+4, 0)
		m = pagedMachine(mode, wordOfText(t, "sys"))
		want := copyMachine(m)
		putFlags(&want, 0)
		checkTrap(t, "sys with pages", m, want.Mem, impl.Stepped{Word: wordAt(m.Mem, samplePc), Cause: impl.CauseSys, Uses: pcFetch(m)}, pagedPc+4, 0)
	}
	for imm, value := range map[int64]int64{0: 0, 2047: 2047, -1: allOn, -2048: 4294965248} {
		m := sampleMachine(wordOfText(t, fmt.Sprintf("hyper %d", imm)))
		checkTrap(t, fmt.Sprintf("hyper %d", imm), m, m.Mem, impl.Stepped{Word: wordAt(m.Mem, samplePc), Cause: impl.CauseHyper, Uses: pcFetch(m)}, samplePc+4, value)
	}
	m := pagedMachine(impl.ModeKernel, wordOfText(t, "hyper 5"))
	want := copyMachine(m)
	putFlags(&want, 0)
	checkTrap(t, "hyper with pages", m, want.Mem, impl.Stepped{Word: wordAt(m.Mem, samplePc), Cause: impl.CauseHyper, Uses: pcFetch(m)}, pagedPc+4, 5)
}

func TestTrapOfIllegalWords(t *testing.T) {
	words := []int64{0, allOn, 14 << 24, 55 << 24, 1<<24 + 1, 40<<24 + 1, 52<<24 + 4<<20, 53<<24 + 1, 128 << 24}
	for _, word := range words {
		for _, mode := range []int64{impl.ModeUser, impl.ModeKernel} {
			m := sampleMachine(word)
			m.Mode = mode
			checkTrapped(t, fmt.Sprintf("word %#x in mode %d", word, mode), m, impl.CauseIllegal, word, pcFetch(m)...)
			m = pagedMachine(mode, word)
			want := copyMachine(m)
			putFlags(&want, 0)
			checkTrap(t, fmt.Sprintf("word %#x in mode %d with pages", word, mode), m, want.Mem, impl.Stepped{Word: word, Cause: impl.CauseIllegal, Uses: pcFetch(m)}, pagedPc, word)
		}
	}
}

func TestTrapOfInstructionsForTheKernel(t *testing.T) {
	for _, text := range []string{"ret", "wait", "getc r1, 5", "putc r1, 5", "flush", "in r1, 3", "out r1, 3", "hyper 1", "halt", "getc r1, 12", "in r1, -1"} {
		word := wordOfText(t, text)
		m := sampleMachine(word)
		m.Mode = impl.ModeUser
		checkTrapped(t, text+" of a user", m, impl.CauseIllegal, word, pcFetch(m)...)
		m = pagedMachine(impl.ModeUser, word)
		want := copyMachine(m)
		putFlags(&want, 0)
		checkTrap(t, text+" of a user with pages", m, want.Mem, impl.Stepped{Word: word, Cause: impl.CauseIllegal, Uses: pcFetch(m)}, pagedPc, word)
	}
	for _, text := range []string{"add r1, r2, r3", "high r1, 7", "eq r1, r1, 2", "jump r1, r2, 0", "call r1, 2", "vadd v0, v1, v2", "load r1, r0, 4"} {
		m := sampleMachine(wordOfText(t, text))
		m.Mode = impl.ModeUser
		got := impl.StepMachine(m)
		checkNumbers(t, text+" of a user: Cause, Mode", []int64{got.Cause, got.Machine.Mode}, []int64{0, impl.ModeUser})
	}
}

func TestTrapOfVectorsThatAreOff(t *testing.T) {
	for _, text := range []string{"vload v1, r1", "vstore v2, r0", "vadd v3, v2, v1"} {
		word := wordOfText(t, text)
		for _, mode := range []int64{impl.ModeUser, impl.ModeKernel} {
			m := sampleMachine(word)
			m.Mode = mode
			m.Ctl[impl.CtlStatus] = impl.StatusOn | impl.StatusWasOn
			checkTrapped(t, text, m, impl.CauseVec, word, pcFetch(m)...)
			m = pagedMachine(mode, word)
			m.Ctl[impl.CtlStatus] = impl.StatusPaged
			want := copyMachine(m)
			putFlags(&want, 0)
			checkTrap(t, text+" with pages", m, want.Mem, impl.Stepped{Word: word, Cause: impl.CauseVec, Uses: pcFetch(m)}, pagedPc, word)
		}
	}
}

// accessTexts are all instructions that access memory by the address in r2, by the kind of access; those of bytes come first.
func accessTexts() map[int64][]string {
	return map[int64][]string{
		impl.AccRead:  {"loadb r1, r2, 0", "load r1, r2, 0", "vload v1, r2"},
		impl.AccWrite: {"storeb r1, r2, 0", "store r1, r2, 0", "fadd r1, r2, r3", "swap r1, r2, r3", "ifsame r1, r2, r3", "vstore v1, r2"},
	}
}

func TestTrapOfAddressesThatAreNoMultipleOfFour(t *testing.T) {
	for _, texts := range accessTexts() {
		for _, text := range texts[1:] {
			for _, off := range []int64{1, 2, 3} {
				m := sampleMachine(wordOfText(t, text))
				m.Regs[2] = dataAt + off
				checkTrapped(t, text, m, impl.CauseAlign, dataAt+off, pcFetch(m)...)
				m.Regs[2] = 4294967292 + off
				checkTrapped(t, text+" far out", m, impl.CauseAlign, 4294967292+off, pcFetch(m)...)
				m = pagedMachine(impl.ModeUser, wordAt(m.Mem, samplePc))
				m.Regs[2] = impl.MaxVa + off
				want := copyMachine(m)
				putFlags(&want, 0)
				checkTrap(t, text+" with pages", m, want.Mem, impl.Stepped{Word: wordAt(m.Mem, samplePc), Cause: impl.CauseAlign, Uses: pcFetch(m)}, pagedPc, impl.MaxVa+off)
			}
		}
	}
}

func TestTrapOfFetchesThatAreNoMultipleOfFour(t *testing.T) {
	for _, pc := range []int64{1, 2, 3, 65, 2047, 2050, allOn} {
		for _, mode := range []int64{impl.ModeUser, impl.ModeKernel} {
			m := sampleMachine(wordOfText(t, "halt"))
			m.Pc, m.Mode = pc, mode
			checkTrap(t, fmt.Sprintf("fetch at %d", pc), m, m.Mem, impl.Stepped{Cause: impl.CauseAlign}, pc, pc)
			m = pagedMachine(mode, wordOfText(t, "halt"))
			m.Pc = pc
			checkTrap(t, fmt.Sprintf("fetch at %d with pages", pc), m, m.Mem, impl.Stepped{Cause: impl.CauseAlign}, pc, pc)
		}
	}
}

func TestTrapBehindTheEndOfMemory(t *testing.T) {
	for acc, texts := range accessTexts() {
		for at, text := range texts {
			for _, address := range []int64{2048, 2052, 4294967292, 4294967040} {
				m := sampleMachine(wordOfText(t, text))
				m.Regs[2] = address
				if text[0] == 'v' {
					checkTrapped(t, text, m, impl.CauseAlign, address, pcFetch(m)...)
				} else {
					checkTrapped(t, text, m, impl.CauseAccess, address, pcFetch(m, address, acc)...)
				}
			}
			last := int64(2044)
			if at == 0 {
				last = 2047
			}
			if text[0] == 'v' {
				last = 2032
			}
			m := sampleMachine(wordOfText(t, text))
			m.Regs[2] = last
			got := impl.StepMachine(m)
			checkNumbers(t, text+" at the end: Cause and Uses", append(got.Uses, got.Cause), pcFetch(m, last, acc, 0))
		}
	}
	for _, text := range []string{"loadb r1, r2, 0", "storeb r1, r2, 0"} {
		m := sampleMachine(wordOfText(t, text))
		m.Regs[2] = allOn
		got := impl.StepMachine(m)
		checkNumbers(t, text+" at the last address", []int64{got.Cause, got.Machine.Ctl[impl.CtlValue]}, []int64{impl.CauseAccess, allOn})
	}
}

func TestTrapOfFetchesBehindTheEndOfMemory(t *testing.T) {
	for _, mode := range []int64{impl.ModeUser, impl.ModeKernel} {
		m := sampleMachine(0)
		m.Mode = mode
		for _, pc := range []int64{2048, 65536, 4294967292} {
			m.Pc = pc
			checkTrap(t, fmt.Sprintf("fetch at %d", pc), m, m.Mem, impl.Stepped{Cause: impl.CauseAccess, Uses: pcFetch(m)}, pc, pc)
		}
		m.Mem = withWord(m.Mem, 2044, wordOfText(t, "add r1, r2, r3"))
		m.Pc = 2044
		got := impl.StepMachine(m)
		checkNumbers(t, "fetch at the last word", []int64{got.Cause, got.Machine.Pc, got.Machine.Regs[1]}, []int64{0, 2048, 0x05050505})
	}
}

func TestTrapOfVectorsOverTheEnd(t *testing.T) {
	for _, text := range []string{"vload v1, r2", "vstore v1, r2"} {
		for _, address := range []int64{2036, 2040, 2044} {
			m := sampleMachine(wordOfText(t, text))
			m.Regs[2] = address
			checkTrapped(t, text, m, impl.CauseAlign, address, pcFetch(m)...)
		}
		for _, address := range []int64{openPage + 244, openPage + 248, openPage + 252, readPage - 4, lostPage + 244, impl.MaxVa - 4, impl.MaxVa + 252, 4294967292, 4294967284} {
			m := pagedMachine(impl.ModeUser, wordOfText(t, text))
			m.Regs[2] = address
			want := copyMachine(m)
			putFlags(&want, 0)
			checkTrap(t, fmt.Sprintf("%s at %d with pages", text, address), m, want.Mem, impl.Stepped{Word: wordAt(m.Mem, samplePc), Cause: impl.CauseAlign, Uses: pcFetch(m)}, pagedPc, address)
		}
	}
}

// pageFault is a page that is not for an access of a mode, and what it traps by.
func checkPageFaults(t *testing.T, mode int64, acc int64, text string) {
	t.Helper()
	own := map[int64]int64{impl.AccRead: impl.CauseRead, impl.AccWrite: impl.CauseWrite}[acc]
	closed := map[int64]int64{impl.AccRead: writePage, impl.AccWrite: readPage}[acc]
	causes := map[int64]int64{
		closed: own, emptyPage: own, 0: own, impl.MaxVa: own, 4294967040: own, pagedPc - 64: own,
		lostPage: impl.CauseAccess, lostTable: impl.CauseAccess,
	}
	if mode == impl.ModeUser {
		causes[otherPage] = own
	}
	for address, cause := range causes {
		m := pagedMachine(mode, wordOfText(t, text))
		m.Regs[2] = address
		want := copyMachine(m)
		putFlags(&want, 0)
		checkTrap(t, fmt.Sprintf("%s at %d in mode %d", text, address, mode), m, want.Mem,
			impl.Stepped{Word: wordAt(m.Mem, samplePc), Cause: cause, Uses: pcFetch(m, address, acc)}, pagedPc, address)
	}
	for _, address := range []int64{openPage, openPage + 240, lastPage + 240} {
		m := pagedMachine(mode, wordOfText(t, text))
		m.Regs[2] = address
		got := impl.StepMachine(m)
		checkNumbers(t, fmt.Sprintf("%s at %d in mode %d: Uses and Cause", text, address, mode), append(got.Uses, got.Cause), pcFetch(m, address, acc, 0))
	}
}

func TestTrapOfPages(t *testing.T) {
	for acc, texts := range accessTexts() {
		for _, text := range texts {
			checkPageFaults(t, impl.ModeUser, acc, text)
			checkPageFaults(t, impl.ModeKernel, acc, text)
		}
	}
	m := pagedMachine(impl.ModeKernel, wordOfText(t, "load r1, r2, 0"))
	m.Regs[2] = otherPage
	checkNumber(t, "a kernel reads what is a user's", impl.StepMachine(m).Cause, 0)
}

func TestTrapOfFetchesWithPages(t *testing.T) {
	for _, mode := range []int64{impl.ModeUser, impl.ModeKernel} {
		causes := map[int64]int64{
			openPage: impl.CauseFetch, otherPage: impl.CauseFetch, emptyPage: impl.CauseFetch, 0: impl.CauseFetch,
			impl.MaxVa: impl.CauseFetch, 4294967292: impl.CauseFetch, lostPage: impl.CauseAccess, lostTable: impl.CauseAccess,
		}
		for pc, cause := range causes {
			m := pagedMachine(mode, wordOfText(t, "halt"))
			m.Pc = pc
			checkTrap(t, fmt.Sprintf("fetch at %d in mode %d", pc, mode), m, m.Mem, impl.Stepped{Cause: cause, Uses: pcFetch(m)}, pc, pc)
		}
		m := pagedMachine(mode, wordOfText(t, "add r1, r2, r3"))
		m.Ctl[impl.CtlTable] = 8
		checkTrap(t, "fetch by a root that is not in memory", m, m.Mem, impl.Stepped{Cause: impl.CauseAccess, Uses: pcFetch(m)}, pagedPc, pagedPc)
		m = pagedMachine(mode, 0)
		m.Pc = impl.MaxVa - 4
		m.Mem = withWord(m.Mem, 5*256+252, wordOfText(t, "add r1, r2, r3"))
		got := impl.StepMachine(m)
		checkNumbers(t, "fetch at the last address", []int64{got.Cause, got.Machine.Pc, got.Machine.Regs[1]}, []int64{0, impl.MaxVa, 0x05050505})
	}
}

// A step that traps by its access has put A for its fetch, and no flag for what was not let.
func TestTrapKeepsWhatALookupPut(t *testing.T) {
	m := pagedMachine(impl.ModeUser, wordOfText(t, "store r1, r2, 0"))
	m.Regs[2] = readPage
	got := impl.StepMachine(m).Machine.Mem
	checkNumber(t, "entry of the fetch", readEntry(got, pagedTable, 0), flagV|flagX|flagU|flagA)
	checkNumber(t, "entry of the access", readEntry(got, pagedTable, 2), 2*256+flagV|flagR|flagU)
	for at := range m.Mem {
		if at != pagedTable*256 && got[at] != m.Mem[at] {
			t.Errorf("byte %d is another one", at)
		}
	}
}

// A store to its own table puts its flags first and is put over them.
func TestStoreIntoItsOwnTable(t *testing.T) {
	m := pagedMachine(impl.ModeKernel, wordOfText(t, "store r0, r2, 0"))
	m.Mem = withEntries(m.Mem, tableEntry{pagedTable, 1, pagedTable, flagV | flagW})
	m.Regs[2] = openPage + 4
	got := impl.StepMachine(m)
	checkNumber(t, "Cause", got.Cause, 0)
	checkNumber(t, "entry", readEntry(got.Machine.Mem, pagedTable, 1), 0)
	m.Mem = withWord(m.Mem, samplePc, wordOfText(t, "swap r1, r2, r0"))
	got = impl.StepMachine(m)
	checkNumber(t, "what swap reads", got.Machine.Regs[1], pagedTable*256+flagV|flagW|flagA|flagD)
}

// lineMachine waits or not, with an instruction that would show.
func lineMachine(mode int64, status int64, state int64) impl.Machine {
	m := sampleMachine(wordOfInstr(impl.Instr{Op: impl.OpAddI, A: 1, B: 0, Imm: 7}))
	m.Mode, m.State = mode, state
	m.Ctl[impl.CtlStatus] = status
	m.Ctl[impl.CtlTimer] = 0
	return m
}

// checkLine holds a step with these lines; line is the one that it traps by (-1: none).
func checkLine(t *testing.T, what string, m impl.Machine, line int64) {
	t.Helper()
	if line >= 0 {
		want := trapped(m, m.Pc, impl.CauseLine+line, 0)
		want.State = impl.StateGo
		if line < 7 {
			want.Lines -= 1 << line
		}
		want.Trace = traceOf(m.Trace, m.Pc, 0, impl.CauseLine+line, 0)
		checkStepped(t, what, impl.StepMachine(m), impl.Stepped{Machine: want, Pc: m.Pc, Cause: impl.CauseLine + line})
		return
	}
	checkDone(t, what, m, func(m *impl.Machine) { m.Regs[1], m.State = 7, impl.StateGo })
}

// checkStill is a step in which nothing happens.
func checkStill(t *testing.T, what string, m impl.Machine) {
	t.Helper()
	want := copyMachine(m)
	want.Count++
	want.Trace = traceOf(m.Trace, m.Pc, 0, 0, 0)
	checkStepped(t, what, impl.StepMachine(m), impl.Stepped{Machine: want, Pc: m.Pc})
}

func TestLinesInEachMode(t *testing.T) {
	for _, mode := range []int64{impl.ModeUser, impl.ModeKernel} {
		for _, status := range []int64{0, impl.StatusOn, impl.StatusOn | impl.StatusWasOn, impl.StatusWasOn | impl.StatusWasKernel | impl.StatusVec, 15} {
			for _, state := range []int64{impl.StateGo, impl.StateWait} {
				m := lineMachine(mode, status, state)
				traps := mode == impl.ModeUser || status&impl.StatusOn != 0
				m.Lines, m.Ctl[impl.CtlEnable] = 0x50, 0x74
				line := int64(-1)
				if traps {
					line = 4
				}
				what := fmt.Sprintf("mode %d, status %d, state %d", mode, status, state)
				checkLine(t, what, m, line)
				m.Ctl[impl.CtlEnable] = 0xffffff2f
				if state == impl.StateWait {
					checkStill(t, what+", none enabled", m)
				} else {
					checkLine(t, what+", none enabled", m, -1)
				}
			}
		}
	}
}

func TestLinesTheLowestFirst(t *testing.T) {
	for lines := range int64(128) {
		for _, enable := range []int64{allOn, 0x7f, 0x55, 0x2a, 0x40, 1, 0x80} {
			m := lineMachine(impl.ModeUser, 0, impl.StateGo)
			m.Lines, m.Ctl[impl.CtlEnable] = lines, enable
			line := int64(-1)
			for n := int64(6); n >= 0; n-- {
				if lines&enable>>n&1 == 1 {
					line = n
				}
			}
			checkLine(t, fmt.Sprintf("lines %#x, enabled %#x", lines, enable), m, line)
		}
	}
}

func TestLineOfTheTimer(t *testing.T) {
	tests := []struct {
		timer, enable, lines int64
		line                 int64
	}{
		{0, allOn, 0, -1}, {1, 0x80, 0, 7}, {5000, 0x80, 0, 7}, {5001, 0x80, 0, 7}, {5002, 0x80, 0, -1}, {allOn, 0x80, 0, -1},
		{5001, 0x7f, 0, -1}, {5001, 0xff, 0x40, 6}, {5001, 0x80, 0x7f, 7}, {5001, 0x100, 0x7f, -1}, {5002, 0xc0, 0x40, 6},
	}
	for _, test := range tests {
		m := lineMachine(impl.ModeKernel, impl.StatusOn, impl.StateGo)
		m.Lines, m.Ctl[impl.CtlTimer], m.Ctl[impl.CtlEnable] = test.lines, test.timer, test.enable
		what := fmt.Sprintf("timer %d, enabled %#x, lines %#x", test.timer, test.enable, test.lines)
		checkLine(t, what, m, test.line)
		m.State = impl.StateWait
		if test.line >= 0 {
			checkLine(t, what+" while waiting", m, test.line)
		} else {
			checkStill(t, what+" while waiting", m)
		}
	}
}

func TestTimerComesWithItsCount(t *testing.T) {
	m := lineMachine(impl.ModeUser, 0, impl.StateWait)
	m.Lines, m.Ctl[impl.CtlTimer], m.Ctl[impl.CtlEnable] = 0, 5010, 0x80
	r := impl.RunMachine(m, 9)
	checkNumbers(t, "ahead of it: State, Cause", []int64{r.Machine.State, r.Machine.Ctl[impl.CtlCause]}, []int64{impl.StateWait, 77})
	r = impl.RunMachine(m, 10)
	checkNumbers(t, "with it: State, Cause, Lines", []int64{r.Machine.State, r.Machine.Ctl[impl.CtlCause], r.Machine.Lines}, []int64{impl.StateGo, impl.CauseLine + 7, 0})
}

func TestWaitIsEndedWithoutATrap(t *testing.T) {
	m := lineMachine(impl.ModeKernel, 0, impl.StateWait)
	m.Lines, m.Ctl[impl.CtlEnable] = 8, 8
	checkLine(t, "a kernel without StatusOn", m, -1)
	checkNumber(t, "its line stays raised", impl.StepMachine(m).Machine.Lines, 8)
}

// letFrames are the frames that a step of a user may change: those of tables that its lookups read, and those of
// places that the table lets it write to.
func letFrames(m impl.Machine, uses []int64) map[int64]bool {
	may := map[int64]bool{}
	for at := 0; at < len(uses); at += 2 {
		if uses[at] >= impl.MaxVa {
			continue
		}
		w := plainWalked(m.Mem, m.Ctl[impl.CtlTable]%256, uses[at], uses[at+1], true)
		for _, table := range w.Reads {
			may[table] = true
		}
		if w.Fault == 0 && uses[at+1] == impl.AccWrite {
			may[w.Pa/256] = true
		}
	}
	return may
}

func TestP10UserChangesNoOtherFrame(t *testing.T) {
	rng := rand.New(rand.NewSource(1010))
	writes, traps := 0, 0
	instrs := everyInstr()
	stores := []int64{impl.OpStore, impl.OpStoreB, impl.OpSwap, impl.OpFetchAdd, impl.OpIfSame, impl.OpVStore}
	for range 6000 {
		i := instrs[rng.Intn(len(instrs))]
		if rng.Intn(2) == 0 {
			i = impl.Instr{Op: stores[rng.Intn(len(stores))], A: rng.Int63n(4), B: rng.Int63n(16)}
		}
		m := randomMachine(rng, wordOfInstr(i))
		if m.Ctl[impl.CtlStatus]&impl.StatusPaged == 0 {
			m = pagedMachine(impl.ModeUser, wordOfInstr(i))
			m.Regs[rng.Intn(15)+1] = openPage + 4*rng.Int63n(64)
		}
		m.Mode = impl.ModeUser
		got := impl.StepMachine(m)
		may := letFrames(m, got.Uses)
		for frame := range int64(len(m.Mem) / 256) {
			if got.Machine.Mem[frame*256:][:256] != m.Mem[frame*256:][:256] && !may[frame] {
				t.Fatalf("%+v: %s: changed frame %d", i, machineText(m), frame)
			}
		}
		if (got.Machine.Mode == impl.ModeUser) != (got.Cause == 0) {
			t.Fatalf("%+v: %s: Mode %d with cause %d", i, machineText(m), got.Machine.Mode, got.Cause)
		}
		if got.Cause != 0 {
			traps++
		} else if slices.Contains(stores, i.Op) {
			writes++
		}
	}
	if writes < 300 || traps < 300 {
		t.Errorf("only %d writes and %d traps: the test tells little", writes, traps)
	}
}

func TestP10UserWritesWhereItMay(t *testing.T) {
	for _, text := range accessTexts()[impl.AccWrite] {
		m := pagedMachine(impl.ModeUser, wordOfText(t, text))
		m.Regs[1], m.Regs[3] = 0x55555555, 0x66666666
		for _, page := range []int64{readPage, otherPage, lostPage, emptyPage, 0, impl.MaxVa} {
			m.Regs[2] = page + 16
			got := impl.StepMachine(m)
			if got.Cause == 0 || got.Machine.Mode != impl.ModeKernel || got.Machine.Mem[:6*256] != m.Mem[:6*256] {
				t.Errorf("%s to %d: was let", text, page)
			}
		}
		m.Regs[2] = openPage + 16
		m.Mem = withWord(m.Mem, 256+16, 0x55555555)
		got := impl.StepMachine(m)
		if got.Cause != 0 || got.Machine.Mode != impl.ModeUser || got.Machine.Mem[256:512] == m.Mem[256:512] && text[:6] != "storeb" && text[:5] != "store" {
			t.Errorf("%s to an open page: was not let", text)
		}
	}
}

func TestP10UserLeavesByATrapAlone(t *testing.T) {
	for _, i := range everyInstr() {
		m := pagedMachine(impl.ModeUser, wordOfInstr(i))
		m.Ctl[impl.CtlStatus] |= impl.StatusOn | impl.StatusWasOn | impl.StatusWasKernel
		got := impl.StepMachine(m)
		if (got.Machine.Mode == impl.ModeUser) != (got.Cause == 0) {
			t.Fatalf("%+v: Mode %d with cause %d", i, got.Machine.Mode, got.Cause)
		}
		if got.Cause == 0 && !slices.Equal(got.Machine.Ctl, m.Ctl) {
			t.Fatalf("%+v: a user changed control words", i)
		}
	}
}

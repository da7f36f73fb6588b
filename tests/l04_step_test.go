package tests

import (
	"encoding/binary"
	"fmt"
	"math/rand"
	"slices"
	"strings"
	"testing"

	"loop.example/g00038/impl"
)

const (
	allOn    = 4294967295
	topBit   = 2147483648
	samplePc = 64
	dataAt   = 512
	pagedPc  = 3*8192 + samplePc
	// The pages of pagedMachine, all of the first index 3, by what they are for.
	openPage   = 3*8192 + 1*256
	readPage   = 3*8192 + 2*256
	writePage  = 3*8192 + 3*256
	otherPage  = 3*8192 + 4*256
	lostPage   = 3*8192 + 5*256
	emptyPage  = 3*8192 + 6*256
	lostTable  = 4 * 8192
	lastPage   = 262144 - 256
	pagedRoot  = 6
	pagedTable = 7
)

func withWord(mem string, at int64, word int64) string {
	bytes := []byte(mem)
	binary.LittleEndian.PutUint32(bytes[at:], uint32(word))
	return string(bytes)
}

func wordAt(mem string, at int64) int64 {
	return int64(binary.LittleEndian.Uint32([]byte(mem)[at:]))
}

// wordOfText is the word of one instruction.
func wordOfText(t *testing.T, text string) int64 {
	t.Helper()
	a := impl.Assemble(text, 0)
	if a.Code != impl.OK || len(a.Words) != 1 {
		t.Fatalf("%q is no instruction", text)
	}
	return a.Words[0]
}

// sampleMachine has something in each of its parts, so that whatever a step changes shows. It has eight frames, is in
// ModeKernel and without pages; its lines are raised, but not enabled.
func sampleMachine(word int64) impl.Machine {
	m := impl.Machine{
		Pc: samplePc, Mode: impl.ModeKernel, Count: 5000, Lines: 0x55, Trace: 123456789,
		Mem:  withWord(filledMemory(8), samplePc, word),
		Ins:  []impl.PortValue{{Port: 3, Value: 33}, {Port: 2047, Value: allOn}, {Port: 3, Value: 34}},
		Outs: []impl.PortValue{{Port: 8, Value: 88}},
		Ctl:  []int64{impl.StatusVec, 0x1234, 77, 0x4321, 0x300, 0x5c5c5c5c, 0, 9999, 0, 0, 0x2a, 0},
	}
	for n := range int64(16) {
		m.Regs = append(m.Regs, n*0x01010101)
		m.Vec = append(m.Vec, topBit+n*0x00a0b0c1)
	}
	return m
}

// pagedMachine is the sample behind a table, whose pages are for its mode but for those told by their names.
func pagedMachine(mode int64, word int64) impl.Machine {
	m := sampleMachine(word)
	mine, others := int64(0), int64(flagU)
	if mode == impl.ModeUser {
		mine, others = flagU, 0
	}
	m.Mode = mode
	m.Pc = pagedPc
	m.Ctl[impl.CtlStatus] |= impl.StatusPaged
	m.Ctl[impl.CtlTable] = 0xabcd00 + pagedRoot
	m.Mem = m.Mem[:pagedRoot*256] + emptyMemory(2)
	m.Mem = withEntries(m.Mem,
		tableEntry{pagedRoot, 3, pagedTable, flagV},
		tableEntry{pagedRoot, 4, 200, flagV},
		tableEntry{pagedRoot, 31, pagedTable, flagV},
		tableEntry{pagedTable, 0, 0, flagV | flagX | mine},
		tableEntry{pagedTable, 1, 1, flagV | flagR | flagW | mine},
		tableEntry{pagedTable, 2, 2, flagV | flagR | mine},
		tableEntry{pagedTable, 3, 3, flagV | flagW | mine},
		tableEntry{pagedTable, 4, 4, flagV | flagR | flagW | flagX | others},
		tableEntry{pagedTable, 5, 900, flagV | flagR | flagW | flagX | mine},
		tableEntry{pagedTable, 31, 5, flagV | flagR | flagW | flagX | mine})
	return m
}

// checkDone holds a step against the machine ahead of it, with Count, Pc and what change says put to it.
func checkDone(t *testing.T, what string, m impl.Machine, change func(m *impl.Machine), uses ...int64) {
	t.Helper()
	if code := impl.MachineFault(m); code != impl.OK {
		t.Fatalf("%s: the machine ahead of the step is not right", what)
	}
	before := copyMachine(m)
	want := copyMachine(m)
	want.Count++
	want.Pc += 4
	word := wordAt(m.Mem, samplePc)
	change(&want)
	want.Trace = traceOf(m.Trace, m.Pc, word, 0, want.Regs[word>>20&15])
	got := impl.StepMachine(m)
	checkStepped(t, what, got, impl.Stepped{Machine: want, Pc: m.Pc, Word: word, Uses: append([]int64{m.Pc, impl.AccFetch}, uses...)})
	checkMachine(t, what+": what was handed in", m, before)
	checkNumber(t, what+": MachineFault", impl.MachineFault(got.Machine), impl.OK)
}

func nothing(m *impl.Machine) {}

// checkPutA holds an instruction that does no more than to put a word into r1, and then the same one with r0.
func checkPutA(t *testing.T, text string, regs map[int]int64, want int64) {
	t.Helper()
	word := wordOfText(t, text)
	m := sampleMachine(word)
	for n, value := range regs {
		m.Regs[n] = value
	}
	checkDone(t, fmt.Sprintf("%s with %v", text, regs), m, func(m *impl.Machine) { m.Regs[1] = want })
	m.Mem = withWord(m.Mem, samplePc, word&^0xf00000)
	checkDone(t, fmt.Sprintf("%s into r0 with %v", text, regs), m, nothing)
}

func TestStepOfSums(t *testing.T) {
	tests := []struct {
		name       string
		b, c, want int64
	}{
		{"add", 7, 8, 15}, {"add", allOn, 1, 0}, {"add", allOn, allOn, allOn - 1},
		{"sub", 7, 8, allOn}, {"sub", 8, 7, 1}, {"sub", 0, allOn, 1},
		{"and", 0xf0f0, 0xff00, 0xf000}, {"or", 0xf0f0, 0xff00, 0xfff0}, {"xor", 0xf0f0, 0xff00, 0x0ff0},
		{"shl", 1, 31, topBit}, {"shl", 1, 32, 1}, {"shl", 3, 31, topBit}, {"shl", 5, allOn, topBit}, {"shl", 0x12345678, 4, 0x23456780},
		{"shr", topBit, 31, 1}, {"shr", topBit, 32, topBit}, {"shr", allOn, 33, 0x7fffffff},
		{"sar", topBit, 31, allOn}, {"sar", topBit, 32, topBit}, {"sar", topBit, 1, 0xc0000000}, {"sar", 0x7fffffff, 30, 1},
		{"mul", allOn, allOn, 1}, {"mul", 65536, 65536, 0}, {"mul", 123456789, 987654321, 123456789 * 987654321 % 4294967296},
		{"div", 7, 2, 3}, {"div", allOn, 2, 0x7fffffff}, {"div", 5, allOn, 0}, {"div", 7, 0, allOn}, {"div", 0, 0, allOn},
		{"rem", 7, 2, 1}, {"rem", allOn, 10, 5}, {"rem", 5, allOn, 5}, {"rem", 7, 0, 7}, {"rem", 0, 0, 0},
		{"less", 1, 2, 1}, {"less", 2, 2, 0}, {"less", allOn, 0, 1}, {"less", 0, allOn, 0}, {"less", topBit, topBit - 1, 1},
		{"below", 1, 2, 1}, {"below", 2, 2, 0}, {"below", allOn, 0, 0}, {"below", 0, allOn, 1}, {"below", topBit, topBit - 1, 0},
	}
	for _, test := range tests {
		checkPutA(t, test.name+" r1, r2, r3", map[int]int64{2: test.b, 3: test.c}, test.want)
	}
	checkPutA(t, "add r1, r1, r1", map[int]int64{1: 21}, 42)
	checkPutA(t, "sub r1, r0, r15", map[int]int64{15: 1}, allOn)
}

func TestStepOfSumsWithImm(t *testing.T) {
	tests := []struct {
		text    string
		b, want int64
	}{
		{"addi r1, r2, 2047", 1, 2048}, {"addi r1, r2, -2048", 2047, allOn}, {"addi r1, r2, -1", 0, allOn},
		{"andi r1, r2, -1", 0xf1234567, 0xf1234567}, {"andi r1, r2, 255", 0xf1234567, 0x67}, {"andi r1, r2, -2048", allOn, 0xfffff800},
		{"ori r1, r2, 2047", 0x1000, 0x17ff}, {"ori r1, r2, -2048", 1, 0xfffff801},
		{"xori r1, r2, -1", 0x0f0f0f0f, 0xf0f0f0f0}, {"xori r1, r2, 1", 3, 2},
		{"high r1, 0", 0, 0}, {"high r1, 1", 0, 4096}, {"high r1, 1048575", 0, 0xfffff000},
	}
	for _, test := range tests {
		checkPutA(t, test.text, map[int]int64{2: test.b}, test.want)
	}
}

// accessMachine has an instruction with its address in r2, and at the real place that it leads to the bytes 04 03 02 01.
func accessMachine(t *testing.T, paged bool, text string, at int64) (impl.Machine, int64) {
	t.Helper()
	m := sampleMachine(wordOfText(t, text))
	real := at
	if paged {
		m = pagedMachine(impl.ModeUser, wordOfText(t, text))
		real = 256 + at%256
	}
	m.Mem = withWord(m.Mem, real&^3, 0x01020304)
	m.Regs[2] = at
	m.Regs[1] = 0xa1b2c3d4
	m.Regs[3] = 0x10
	return m, real
}

// putFlags is what lookups of a fetch and of an access to openPage put into the table.
func putFlags(m *impl.Machine, flags int64) {
	for index, put := range []int64{flagA, flags} {
		entry := readEntry(m.Mem, pagedTable, int64(index))
		m.Mem = withWord(m.Mem, pagedTable*256+4*int64(index), entry|put)
	}
}

func checkAccess(t *testing.T, text string, offset int64, change func(m *impl.Machine, real int64), acc int64) {
	t.Helper()
	m, real := accessMachine(t, false, text, dataAt)
	checkDone(t, text, m, func(m *impl.Machine) { change(m, real) }, dataAt+offset, acc)
	m, real = accessMachine(t, true, text, openPage+128)
	checkDone(t, text+" with pages", m, func(m *impl.Machine) {
		flags := int64(flagA)
		if acc == impl.AccWrite {
			flags |= flagD
		}
		putFlags(m, flags)
		change(m, real)
	}, openPage+128+offset, acc)
}

func TestStepOfLoadsAndStores(t *testing.T) {
	put := func(n int64) func(m *impl.Machine, real int64) {
		return func(m *impl.Machine, real int64) { m.Regs[1] = n }
	}
	checkAccess(t, "load r1, r2, 0", 0, put(0x01020304), impl.AccRead)
	checkAccess(t, "load r0, r2, 0", 0, put(0xa1b2c3d4), impl.AccRead)
	checkAccess(t, "load r2, r2, 0", 0, func(m *impl.Machine, real int64) { m.Regs[2] = 0x01020304 }, impl.AccRead)
	for offset, want := range []int64{4, 3, 2, 1} {
		text := fmt.Sprintf("loadb r1, r2, %d", offset)
		checkAccess(t, text, int64(offset), put(want), impl.AccRead)
	}
	checkAccess(t, "loadb r0, r2, 1", 1, put(0xa1b2c3d4), impl.AccRead)
	for _, offset := range []int64{0, 4, -4, 64, -64} {
		text := fmt.Sprintf("store r1, r2, %d", offset)
		checkAccess(t, text, offset, func(m *impl.Machine, real int64) { m.Mem = withWord(m.Mem, real+offset, 0xa1b2c3d4) }, impl.AccWrite)
	}
	checkAccess(t, "store r0, r2, 0", 0, func(m *impl.Machine, real int64) { m.Mem = withWord(m.Mem, real, 0) }, impl.AccWrite)
	for offset, want := range []int64{0x010203d4, 0x0102d404, 0x01d40304, 0xd4020304} {
		text := fmt.Sprintf("storeb r1, r2, %d", offset)
		checkAccess(t, text, int64(offset), func(m *impl.Machine, real int64) { m.Mem = withWord(m.Mem, real, want) }, impl.AccWrite)
	}
}

func TestStepOfAddressesThatWrap(t *testing.T) {
	m := sampleMachine(wordOfText(t, "load r1, r2, 2044"))
	m.Regs[2] = 4294967296 - 2044
	checkDone(t, "to 0 from below", m, func(m *impl.Machine) { m.Regs[1] = wordAt(m.Mem, 0) }, 0, impl.AccRead)
	m = sampleMachine(wordOfText(t, "loadb r1, r2, -2048"))
	m.Regs[2] = 2049
	checkDone(t, "to 1 from above", m, func(m *impl.Machine) { m.Regs[1] = int64(m.Mem[1]) }, 1, impl.AccRead)
	m.Mem = m.Mem[:256]
	m.Regs[2] = 0
	checkTrapped(t, "below 0", m, impl.CauseAccess, 4294967296-2048, pcFetch(m, 4294967296-2048, impl.AccRead)...)
}

func TestStepOfExchanges(t *testing.T) {
	tests := []struct {
		text string
		a    int64
		put  int64
	}{
		{"fadd r1, r2, r3", 0xa1b2c3d4, 0x01020314}, {"fadd r1, r2, r1", 0xa1b2c3d4, 0xa2b4c6d8}, {"fadd r1, r2, r1", 0xffffffff, 0x01020303},
		{"swap r1, r2, r3", 0xa1b2c3d4, 0x10}, {"swap r1, r2, r1", 0xa1b2c3d4, 0xa1b2c3d4}, {"swap r1, r2, r0", 1, 0},
		{"ifsame r1, r2, r3", 0xa1b2c3d4, 0x01020304}, {"ifsame r1, r2, r3", 0x01020304, 0x10}, {"ifsame r1, r2, r1", 0x01020304, 0x01020304},
		{"ifsame r1, r2, r3", 0, 0x01020304},
	}
	for _, test := range tests {
		m, real := accessMachine(t, false, test.text, dataAt)
		m.Regs[1] = test.a
		what := fmt.Sprintf("%s with %#x", test.text, test.a)
		checkDone(t, what, m, func(m *impl.Machine) {
			m.Regs[1] = 0x01020304
			m.Mem = withWord(m.Mem, real, test.put)
		}, dataAt, impl.AccWrite)
		m, real = accessMachine(t, true, test.text, openPage+16)
		m.Regs[1] = test.a
		checkDone(t, what+" with pages", m, func(m *impl.Machine) {
			putFlags(m, flagA|flagD)
			m.Regs[1] = 0x01020304
			m.Mem = withWord(m.Mem, real, test.put)
		}, openPage+16, impl.AccWrite)
	}
}

func TestStepOfExchangesWithRegisterZero(t *testing.T) {
	for text, put := range map[string]int64{"fadd r0, r2, r3": 0x01020314, "swap r0, r2, r3": 0x10, "ifsame r0, r2, r3": 0x01020304} {
		m, real := accessMachine(t, false, text, dataAt)
		checkDone(t, text, m, func(m *impl.Machine) { m.Mem = withWord(m.Mem, real, put) }, dataAt, impl.AccWrite)
	}
	m, real := accessMachine(t, false, "ifsame r0, r2, r3", dataAt)
	m.Mem = withWord(m.Mem, real, 0)
	checkDone(t, "ifsame r0 of 0", m, func(m *impl.Machine) { m.Mem = withWord(m.Mem, real, 0x10) }, dataAt, impl.AccWrite)
}

func TestStepOfExchangesIntoTheAddress(t *testing.T) {
	for text, put := range map[string]int64{"fadd r2, r2, r2": 0x01020304 + dataAt, "swap r2, r2, r2": dataAt, "ifsame r2, r2, r3": 0x01020304} {
		m, real := accessMachine(t, false, text, dataAt)
		checkDone(t, text, m, func(m *impl.Machine) {
			m.Regs[2] = 0x01020304
			m.Mem = withWord(m.Mem, real, put)
		}, dataAt, impl.AccWrite)
	}
}

func TestStepOfBranches(t *testing.T) {
	tests := []struct {
		name string
		a, b int64
		goes bool
	}{
		{"eq", 5, 5, true}, {"eq", 5, 6, false}, {"ne", 5, 6, true}, {"ne", 5, 5, false},
		{"lt", 5, 6, true}, {"lt", 6, 6, false}, {"lt", allOn, 0, true}, {"lt", 0, allOn, false}, {"lt", topBit, topBit - 1, true},
		{"lo", 5, 6, true}, {"lo", 6, 6, false}, {"lo", allOn, 0, false}, {"lo", 0, allOn, true}, {"lo", topBit, topBit - 1, false},
	}
	for _, test := range tests {
		for _, imm := range []int64{2047, -2048, 0, 1, -16} {
			text := fmt.Sprintf("%s r1, r2, %d", test.name, imm)
			m := sampleMachine(wordOfText(t, text))
			m.Regs[1], m.Regs[2] = test.a, test.b
			checkDone(t, fmt.Sprintf("%s of %d, %d", text, test.a, test.b), m, func(m *impl.Machine) {
				if test.goes {
					m.Pc = wordOf(samplePc + 4*imm)
				}
			})
		}
	}
	checkDone(t, "eq of r0", sampleMachine(wordOfText(t, "eq r0, r0, 9")), func(m *impl.Machine) { m.Pc = samplePc + 36 })
}

func TestStepOfCallsAndJumps(t *testing.T) {
	for imm, pc := range map[int64]int64{524287: samplePc + 4*524287, -524288: 4294967296 + samplePc - 4*524288, 0: samplePc, 1: samplePc + 4} {
		m := sampleMachine(wordOfText(t, fmt.Sprintf("call r1, %d", imm)))
		checkDone(t, fmt.Sprintf("call of %d", imm), m, func(m *impl.Machine) { m.Pc, m.Regs[1] = pc, samplePc+4 })
		m = sampleMachine(wordOfText(t, fmt.Sprintf("call r0, %d", imm)))
		checkDone(t, fmt.Sprintf("call of %d without a register", imm), m, func(m *impl.Machine) { m.Pc = pc })
	}
	for imm, pc := range map[int64]int64{0: 1000, 2047: 3047, -2048: 4294967296 - 1048, 1: 1001} {
		for a := range 3 {
			m := sampleMachine(wordOfText(t, fmt.Sprintf("jump r%d, r2, %d", a, imm)))
			m.Regs[2] = 1000
			checkDone(t, fmt.Sprintf("jump of %d, r%d", imm, a), m, func(m *impl.Machine) {
				m.Pc = pc
				if a > 0 {
					m.Regs[a] = samplePc + 4
				}
			})
		}
	}
	m := sampleMachine(wordOfText(t, "jump r1, r2, 8"))
	m.Regs[2] = 4294967292
	checkDone(t, "jump over the end", m, func(m *impl.Machine) { m.Pc, m.Regs[1] = 4, samplePc+4 })
}

// Nothing can be fetched at the last word: neither memory nor virtual addresses reach so far.
func TestStepOfACallToBelowZero(t *testing.T) {
	m := sampleMachine(wordOfText(t, "call r1, -17"))
	checkDone(t, "call to below 0", m, func(m *impl.Machine) { m.Pc, m.Regs[1] = 4294967292, samplePc+4 })
	r := impl.RunMachine(m, 2)
	checkNumbers(t, "a fetch at the last word", []int64{r.Machine.Ctl[impl.CtlCause], r.Machine.Ctl[impl.CtlFrom], r.Machine.Ctl[impl.CtlValue], r.Machine.Pc},
		[]int64{impl.CauseAccess, 4294967292, 4294967292, 0x300})
}

func TestStepOfRet(t *testing.T) {
	for status := range int64(32) {
		m := sampleMachine(wordOfText(t, "ret"))
		if status&impl.StatusPaged != 0 {
			m = pagedMachine(impl.ModeKernel, wordOfText(t, "ret"))
		}
		m.Ctl[impl.CtlStatus] = status
		checkDone(t, fmt.Sprintf("ret with status %d", status), m, func(m *impl.Machine) {
			if status&impl.StatusPaged != 0 {
				putFlags(m, 0)
			}
			m.Pc = 0x1234
			if status&4 == 0 {
				m.Mode = impl.ModeUser
			}
			m.Ctl[impl.CtlStatus] = status | 3
			if status&2 == 0 {
				m.Ctl[impl.CtlStatus] = status&^1 | 2
			}
		})
	}
}

func TestStepOfWaitHaltAndFlush(t *testing.T) {
	checkDone(t, "wait", sampleMachine(wordOfText(t, "wait")), func(m *impl.Machine) { m.State = impl.StateWait })
	checkDone(t, "halt", sampleMachine(wordOfText(t, "halt")), func(m *impl.Machine) { m.State = impl.StateHalt })
	checkDone(t, "flush", sampleMachine(wordOfText(t, "flush")), nothing)
	m := pagedMachine(impl.ModeKernel, wordOfText(t, "flush"))
	checkDone(t, "flush with pages", m, func(m *impl.Machine) { putFlags(m, 0) })
}

func TestStepOfGettingControlWords(t *testing.T) {
	want := []int64{impl.StatusVec, 0x1234, 77, 0x4321, 0x300, 0x5c5c5c5c, 0, 9999, 5001, 0x55, 0x2a, 1212765505}
	for number, value := range want {
		checkPutA(t, fmt.Sprintf("getc r1, %d", number), nil, value)
	}
	for _, number := range []int64{-1, 12, -2048, 2047} {
		m := sampleMachine(wordOfText(t, fmt.Sprintf("getc r1, %d", number)))
		checkTrapped(t, fmt.Sprintf("getc of %d", number), m, impl.CauseIllegal, wordAt(m.Mem, samplePc), pcFetch(m)...)
	}
}

func TestStepOfGettingCountAndPending(t *testing.T) {
	m := sampleMachine(wordOfText(t, "getc r1, 8"))
	for count, want := range map[int64]int64{0: 1, 4294967294: 4294967295, 4294967295: 0, 1<<40 - 1: 0, 1<<40 - 2: 4294967295} {
		m.Count = count
		m.Ctl[impl.CtlTimer] = 0
		checkDone(t, fmt.Sprintf("getc of Count %d", count), m, func(m *impl.Machine) { m.Regs[1] = want })
	}
	m = sampleMachine(wordOfText(t, "getc r1, 9"))
	for timer, want := range map[int64]int64{0: 0x55, 1: 0xd5, 5000: 0xd5, 5001: 0xd5, 5002: 0x55, allOn: 0x55} {
		m.Ctl[impl.CtlTimer] = timer
		checkDone(t, fmt.Sprintf("getc of pending with the timer at %d", timer), m, func(m *impl.Machine) { m.Regs[1] = want })
	}
	m.Ctl[impl.CtlTimer] = allOn
	m.Count = 1 << 39
	m.Lines = 0
	checkDone(t, "getc of pending with a Count above words", m, func(m *impl.Machine) { m.Regs[1] = 128 })
}

func TestStepOfPuttingControlWords(t *testing.T) {
	for number := range 12 {
		for _, value := range []int64{0, 1, allOn, 0x12345678, 31, 32} {
			m := sampleMachine(wordOfText(t, fmt.Sprintf("putc r1, %d", number)))
			m.Regs[1] = value
			checkDone(t, fmt.Sprintf("putc of %d: %#x", number, value), m, func(m *impl.Machine) {
				switch number {
				case impl.CtlStatus:
					m.Ctl[number] = value % 32
				case impl.CtlCount, impl.CtlPending, impl.CtlName:
				default:
					m.Ctl[number] = value
				}
			})
		}
	}
	m := sampleMachine(wordOfText(t, "putc r0, 5"))
	checkDone(t, "putc of r0", m, func(m *impl.Machine) { m.Ctl[5] = 0 })
	for _, number := range []int64{-1, 12, -2048, 2047} {
		m := sampleMachine(wordOfText(t, fmt.Sprintf("putc r1, %d", number)))
		checkTrapped(t, fmt.Sprintf("putc of %d", number), m, impl.CauseIllegal, wordAt(m.Mem, samplePc), pcFetch(m)...)
	}
}

func TestStepOfPortsIn(t *testing.T) {
	m := sampleMachine(wordOfText(t, "in r1, 3"))
	checkDone(t, "in of a port", m, func(m *impl.Machine) {
		m.Regs[1] = 33
		m.Ins = []impl.PortValue{{Port: 2047, Value: allOn}, {Port: 3, Value: 34}}
	})
	m.Mem = withWord(m.Mem, samplePc, wordOfText(t, "in r0, 2047"))
	checkDone(t, "in without a register", m, func(m *impl.Machine) {
		m.Ins = []impl.PortValue{{Port: 3, Value: 33}, {Port: 3, Value: 34}}
	})
	m.Mem = withWord(m.Mem, samplePc, wordOfText(t, "in r1, 4"))
	checkDone(t, "in of an empty port", m, func(m *impl.Machine) { m.Regs[1] = allOn })
	m.Ins = nil
	m.Mem = withWord(m.Mem, samplePc, wordOfText(t, "in r1, 0"))
	checkDone(t, "in of nothing", m, func(m *impl.Machine) { m.Regs[1] = allOn })
	m.Mem = withWord(m.Mem, samplePc, wordOfText(t, "in r0, 0"))
	checkDone(t, "in of nothing without a register", m, nothing)
	m.Ins = []impl.PortValue{{Port: 0, Value: 0}}
	m.Mem = withWord(m.Mem, samplePc, wordOfText(t, "in r1, 0"))
	checkDone(t, "in of the last one", m, func(m *impl.Machine) { m.Regs[1], m.Ins = 0, nil })
}

func TestStepOfPortsOut(t *testing.T) {
	for _, port := range []int64{0, 8, 2047} {
		m := sampleMachine(wordOfText(t, fmt.Sprintf("out r1, %d", port)))
		for _, count := range []int{0, 1, 98, 99, 100} {
			m.Outs = slices.Repeat([]impl.PortValue{{Port: 1, Value: 2}}, count)
			checkDone(t, fmt.Sprintf("out behind %d", count), m, func(m *impl.Machine) {
				if count < 100 {
					m.Outs = append(m.Outs, impl.PortValue{Port: port, Value: 0x01010101})
				}
			})
		}
	}
	checkDone(t, "out of r0", sampleMachine(wordOfText(t, "out r0, 5")), func(m *impl.Machine) {
		m.Outs = append(m.Outs, impl.PortValue{Port: 5})
	})
	for _, text := range []string{"out r1, -1", "out r1, -2048", "in r1, -1", "in r1, -2048"} {
		m := sampleMachine(wordOfText(t, text))
		checkTrapped(t, text, m, impl.CauseIllegal, wordAt(m.Mem, samplePc), pcFetch(m)...)
	}
}

// fourWords makes memory with the words at that place.
func fourWords(mem string, at int64, words []int64) string {
	for k, word := range words {
		mem = withWord(mem, at+4*int64(k), word)
	}
	return mem
}

func TestStepOfVectors(t *testing.T) {
	words := []int64{0x01020304, 0, allOn, topBit}
	for _, at := range []int64{dataAt, dataAt + 4, 248, 2032} {
		m := sampleMachine(wordOfText(t, "vload v3, r2"))
		m.Regs[2] = at
		m.Mem = fourWords(m.Mem, at, words)
		checkDone(t, fmt.Sprintf("vload at %d", at), m, func(m *impl.Machine) { copy(m.Vec[12:], words) }, at, impl.AccRead)
		m = sampleMachine(wordOfText(t, "vstore v1, r2"))
		m.Regs[2] = at
		checkDone(t, fmt.Sprintf("vstore at %d", at), m, func(m *impl.Machine) { m.Mem = fourWords(m.Mem, at, m.Vec[4:8]) }, at, impl.AccWrite)
	}
	for _, place := range []int64{0, 4, 240} {
		at := openPage + place
		m := pagedMachine(impl.ModeUser, wordOfText(t, "vload v0, r2"))
		m.Regs[2] = at
		m.Mem = fourWords(m.Mem, 256+place, words)
		checkDone(t, fmt.Sprintf("vload at %d with pages", at), m, func(m *impl.Machine) {
			putFlags(m, flagA)
			copy(m.Vec, words)
		}, at, impl.AccRead)
		m = pagedMachine(impl.ModeKernel, wordOfText(t, "vstore v2, r2"))
		m.Regs[2] = at
		checkDone(t, fmt.Sprintf("vstore at %d with pages", at), m, func(m *impl.Machine) {
			putFlags(m, flagA|flagD)
			m.Mem = fourWords(m.Mem, 256+place, m.Vec[8:12])
		}, at, impl.AccWrite)
	}
}

func TestStepOfVectorSums(t *testing.T) {
	for _, text := range []string{"vadd v0, v1, v2", "vadd v3, v3, v3", "vadd v1, v1, v2", "vadd v2, v1, v2"} {
		m := sampleMachine(wordOfText(t, text))
		i := impl.Decode(wordAt(m.Mem, samplePc)).Instr
		checkDone(t, text, m, func(m *impl.Machine) {
			before := slices.Clone(m.Vec)
			for k := range int64(4) {
				m.Vec[4*i.A+k] = (before[4*i.B+k] + before[4*i.C+k]) % 4294967296
			}
		})
	}
}

// randomMachine is a right machine with an instruction that often reaches something.
func randomMachine(rng *rand.Rand, word int64) impl.Machine {
	frames := []int{1, 2, 8, 9, 40}[rng.Intn(5)]
	mem := randomTables(rng, frames)
	m := impl.NewMachine(mem)
	m.Mode = rng.Int63n(2)
	m.State = []int64{impl.StateGo, impl.StateGo, impl.StateGo, impl.StateWait}[rng.Intn(4)]
	m.Count = rng.Int63n(1 << 40)
	m.Lines = rng.Int63n(128)
	m.Trace = rng.Int63n(impl.MixPrime)
	m.Pc = 4 * rng.Int63n(int64(frames)*64)
	size := int64(frames * 256)
	places := []int64{0, 4, 252, 256, size - 16, size - 12, size - 4, size - 1, size, size + 4, impl.MaxVa - 4, impl.MaxVa - 1, impl.MaxVa, allOn, allOn - 3, topBit}
	for n := 1; n < 16; n++ {
		m.Regs[n] = rng.Int63n(4294967296)
		switch rng.Intn(4) {
		case 0:
			m.Regs[n] = places[rng.Intn(len(places))]
		case 1:
			m.Regs[n] = 4 * rng.Int63n(size/4)
		case 2:
			m.Regs[n] = 4 * rng.Int63n(impl.MaxVa/4)
		}
	}
	for n := range m.Vec {
		m.Vec[n] = rng.Int63n(4294967296)
	}
	for _, n := range []int{impl.CtlFrom, impl.CtlCause, impl.CtlValue, impl.CtlVector, impl.CtlScratch} {
		m.Ctl[n] = rng.Int63n(4294967296)
	}
	m.Ctl[impl.CtlStatus] = rng.Int63n(32)
	m.Ctl[impl.CtlTable] = rng.Int63n(16777216)*256 + rng.Int63n(3)
	m.Ctl[impl.CtlTimer] = []int64{0, 1, m.Count, m.Count + 1, m.Count + 2}[rng.Intn(5)] % 4294967296
	m.Ctl[impl.CtlEnable] = []int64{0, 0, 0, rng.Int63n(256), rng.Int63n(4294967296)}[rng.Intn(5)]
	for range rng.Intn(4) {
		m.Ins = append(m.Ins, impl.PortValue{Port: rng.Int63n(3), Value: rng.Int63n(4294967296)})
	}
	m.Outs = make([]impl.PortValue, []int{0, 1, 99, 100}[rng.Intn(4)])
	if m.Ctl[impl.CtlStatus]&impl.StatusPaged == 0 {
		m.Mem = withWord(m.Mem, m.Pc, word)
	} else {
		m.Mem = withFetch(rng, m, word)
	}
	return m
}

// withFetch makes memory whose table, mostly, lets the machine fetch that word.
func withFetch(rng *rand.Rand, m impl.Machine, word int64) string {
	if rng.Intn(8) == 0 {
		return m.Mem
	}
	frames := int64(len(m.Mem) / 256)
	root, code := m.Ctl[impl.CtlTable]%256%frames, rng.Int63n(frames)
	m.Ctl[impl.CtlTable] = root
	flags := int64(flagV | flagR | flagX)
	if m.Mode == impl.ModeUser {
		flags |= flagU
	}
	mem := withWord(m.Mem, code*256+m.Pc%256, word)
	second := rng.Int63n(frames)
	mem = withEntries(mem, tableEntry{root, m.Pc / 8192, second, flagV})
	return withEntries(mem, tableEntry{second, m.Pc / 256 % 32, code, flags})
}

func TestStepAgainstPlainStep(t *testing.T) {
	rng := rand.New(rand.NewSource(41))
	for _, form := range opForms() {
		instrs := instrsOf(form)
		for range 150 {
			word := wordOfInstr(instrs[rng.Intn(len(instrs))])
			// A small Imm leaves the address near to what its register says.
			if strings.ContainsRune(form.parts, 'i') && rng.Intn(2) == 0 {
				word = word&^0xfff | rng.Int63n(8)*4
			}
			m := randomMachine(rng, word)
			if impl.MachineFault(m) != impl.OK {
				t.Fatalf("%s: not right", machineText(m))
			}
			checkStepped(t, fmt.Sprintf("%s: %s", form.name, machineText(m)), impl.StepMachine(m), plainStep(m))
			if t.Failed() {
				return
			}
		}
	}
}

func TestStepOfEveryInstruction(t *testing.T) {
	for n, i := range everyInstr() {
		m := sampleMachine(wordOfInstr(i))
		m.Regs[1], m.Regs[2], m.Regs[15] = dataAt, 2048, 1024
		what := fmt.Sprintf("%+v", i)
		checkStepped(t, what, impl.StepMachine(m), plainStep(m))
		if n%7 == 0 {
			m = pagedMachine(impl.ModeUser, wordOfInstr(i))
			m.Regs[1], m.Regs[2], m.Regs[15] = openPage+16, readPage, writePage+252
			checkStepped(t, what+" with pages", impl.StepMachine(m), plainStep(m))
		}
		if t.Failed() {
			return
		}
	}
}

package tests

import (
	"encoding/binary"
	"fmt"
	"slices"
	"testing"

	"loop.example/g00038/impl"
)

// plain is a step as chapter 5 says it, said once more: words are of 32 bits, memory is bytes, and what traps is told, not thrown.
type plain struct {
	m     impl.Machine
	regs  [16]uint32
	mem   []byte
	word  uint32
	instr impl.Instr
	next  uint32
	cause int64
	value int64
	uses  []int64
}

// copyMachine shares nothing with m that could be changed.
func copyMachine(m impl.Machine) impl.Machine {
	m.Regs = slices.Clone(m.Regs)
	m.Ctl = slices.Clone(m.Ctl)
	m.Vec = slices.Clone(m.Vec)
	m.Ins = slices.Clone(m.Ins)
	m.Outs = slices.Clone(m.Outs)
	return m
}

// traceOf is the sum behind a step, of its four words.
func traceOf(trace int64, pc int64, word int64, cause int64, a int64) int64 {
	var told []byte
	for _, n := range []int64{pc, word, cause, a} {
		told = binary.LittleEndian.AppendUint32(told, uint32(n))
	}
	return mixOf(string(told), trace)
}

func plainPending(m impl.Machine) int64 {
	if m.Ctl[impl.CtlTimer] != 0 && m.Count >= m.Ctl[impl.CtlTimer] {
		return m.Lines + 128
	}
	return m.Lines
}

// plainStep is for right machines that are not in StateHalt and whose Count is below its end.
func plainStep(m impl.Machine) impl.Stepped {
	p := &plain{m: copyMachine(m), mem: []byte(m.Mem)}
	for n, value := range m.Regs {
		p.regs[n] = uint32(value)
	}
	p.m.Count++
	at := m.Pc
	if !p.line() && p.m.State != impl.StateWait && p.fetch() && p.decode() {
		p.next = uint32(at) + 4
		if p.do() {
			p.m.Pc = int64(p.next)
		}
	}
	if p.cause != 0 {
		plainTrap(&p.m, p.cause, p.value)
	}
	for n, value := range p.regs {
		p.m.Regs[n] = int64(value)
	}
	p.m.Mem = string(p.mem)
	p.m.Trace = traceOf(m.Trace, at, int64(p.word), p.cause, p.m.Regs[p.instr.A])
	return impl.Stepped{Machine: p.m, Pc: at, Word: int64(p.word), Cause: p.cause, Uses: p.uses}
}

func plainTrap(m *impl.Machine, cause int64, value int64) {
	status := m.Ctl[impl.CtlStatus]
	was := status &^ (impl.StatusOn | impl.StatusWasOn | impl.StatusWasKernel)
	if status&impl.StatusOn != 0 {
		was |= impl.StatusWasOn
	}
	if m.Mode == impl.ModeKernel {
		was |= impl.StatusWasKernel
	}
	m.Ctl[impl.CtlStatus] = was
	m.Ctl[impl.CtlFrom] = m.Pc
	m.Ctl[impl.CtlCause] = cause
	m.Ctl[impl.CtlValue] = value
	m.Mode = impl.ModeKernel
	m.Pc = m.Ctl[impl.CtlVector]
}

// trap answers no, so that what comes to it can end with it.
func (p *plain) trap(cause int64, value int64) bool {
	p.cause, p.value = cause, value
	return false
}

func (p *plain) status(bit int64) bool {
	return p.m.Ctl[impl.CtlStatus]&bit != 0
}

// line tells whether the step is a trap by a line.
func (p *plain) line() bool {
	for line := range 8 {
		bit := int64(1) << line
		if plainPending(p.m)&bit == 0 || p.m.Ctl[impl.CtlEnable]&bit == 0 {
			continue
		}
		p.m.State = impl.StateGo
		if p.m.Mode == impl.ModeUser || p.status(impl.StatusOn) {
			if line < 7 {
				p.m.Lines -= bit
			}
			p.trap(impl.CauseLine+int64(line), 0)
			return true
		}
		return false
	}
	return false
}

// find tells the real place of that many bytes.
func (p *plain) find(address int64, acc int64, size int64) (int64, bool) {
	paged := p.status(impl.StatusPaged)
	cause := map[int64]int64{impl.AccRead: impl.CauseRead, impl.AccWrite: impl.CauseWrite, impl.AccFetch: impl.CauseFetch}[acc]
	if size > 1 && address%4 != 0 {
		return 0, p.trap(impl.CauseAlign, address)
	}
	if size == 16 && (paged && address/256 != (address+15)/256 || !paged && address+16 > int64(len(p.mem))) {
		return 0, p.trap(impl.CauseAlign, address)
	}
	p.uses = append(p.uses, address, acc)
	if !paged {
		if address+size > int64(len(p.mem)) {
			return 0, p.trap(impl.CauseAccess, address)
		}
		return address, true
	}
	if address >= 262144 {
		return 0, p.trap(cause, address)
	}
	w := plainWalked(string(p.mem), p.m.Ctl[impl.CtlTable]%256, address, acc, p.m.Mode == impl.ModeUser)
	p.mem = []byte(w.Mem)
	switch w.Fault {
	case impl.FaultPage:
		return 0, p.trap(cause, address)
	case impl.FaultAccess:
		return 0, p.trap(impl.CauseAccess, address)
	}
	return w.Pa, true
}

func (p *plain) fetch() bool {
	at, found := p.find(p.m.Pc, impl.AccFetch, 4)
	if found {
		p.word = binary.LittleEndian.Uint32(p.mem[at:])
	}
	return found
}

func (p *plain) illegal() bool {
	return p.trap(impl.CauseIllegal, int64(p.word))
}

func (p *plain) decode() bool {
	read := impl.Decode(int64(p.word))
	p.instr = read.Instr
	if !read.Good {
		return p.illegal()
	}
	kernel := []int64{impl.OpRet, impl.OpWait, impl.OpGetC, impl.OpPutC, impl.OpFlush, impl.OpIn, impl.OpOut, impl.OpHyper, impl.OpHalt}
	if p.m.Mode == impl.ModeUser && slices.Contains(kernel, p.instr.Op) {
		return p.illegal()
	}
	if p.instr.Op >= impl.OpVLoad && !p.status(impl.StatusVec) {
		return p.trap(impl.CauseVec, int64(p.word))
	}
	return true
}

func (p *plain) put(n uint32) bool {
	if p.instr.A != 0 {
		p.regs[p.instr.A] = n
	}
	return true
}

func (p *plain) do() bool {
	switch op := p.instr.Op; {
	case op <= impl.OpBelow:
		return p.put(plainSum(op, p.regs[p.instr.B], p.regs[p.instr.C]))
	case op <= impl.OpXorI:
		plainOps := map[int64]int64{impl.OpAddI: impl.OpAdd, impl.OpAndI: impl.OpAnd, impl.OpOrI: impl.OpOr, impl.OpXorI: impl.OpXor}
		return p.put(plainSum(plainOps[op], p.regs[p.instr.B], uint32(p.instr.Imm)))
	case op == impl.OpHigh:
		return p.put(uint32(p.instr.Imm * 4096))
	case op <= impl.OpStoreB:
		return p.access(p.regs[p.instr.B] + uint32(p.instr.Imm))
	case op <= impl.OpIfSame:
		return p.exchange()
	case op <= impl.OpJump:
		p.branch()
		return true
	case op <= impl.OpHalt:
		return p.system()
	default:
		return p.vectors()
	}
}

func plainSum(op int64, b uint32, c uint32) uint32 {
	yes := map[bool]uint32{true: 1}
	switch op {
	case impl.OpAdd:
		return b + c
	case impl.OpSub:
		return b - c
	case impl.OpAnd:
		return b & c
	case impl.OpOr:
		return b | c
	case impl.OpXor:
		return b ^ c
	case impl.OpShl:
		return b << (c % 32)
	case impl.OpShr:
		return b >> (c % 32)
	case impl.OpSar:
		return uint32(int32(b) >> (c % 32))
	case impl.OpMul:
		return b * c
	case impl.OpDiv:
		if c == 0 {
			return 0xffffffff
		}
		return b / c
	case impl.OpRem:
		if c == 0 {
			return b
		}
		return b % c
	case impl.OpLess:
		return yes[int32(b) < int32(c)]
	default:
		return yes[b < c]
	}
}

func (p *plain) access(address uint32) bool {
	accs := map[int64]int64{impl.OpLoad: 1, impl.OpLoadB: 1, impl.OpStore: 2, impl.OpStoreB: 2}
	sizes := map[int64]int64{impl.OpLoad: 4, impl.OpLoadB: 1, impl.OpStore: 4, impl.OpStoreB: 1}
	at, found := p.find(int64(address), accs[p.instr.Op], sizes[p.instr.Op])
	if !found {
		return false
	}
	switch p.instr.Op {
	case impl.OpLoad:
		p.put(binary.LittleEndian.Uint32(p.mem[at:]))
	case impl.OpLoadB:
		p.put(uint32(p.mem[at]))
	case impl.OpStore:
		binary.LittleEndian.PutUint32(p.mem[at:], p.regs[p.instr.A])
	case impl.OpStoreB:
		p.mem[at] = byte(p.regs[p.instr.A] % 256)
	}
	return true
}

func (p *plain) exchange() bool {
	at, found := p.find(int64(p.regs[p.instr.B]), impl.AccWrite, 4)
	if !found {
		return false
	}
	a, c := p.regs[p.instr.A], p.regs[p.instr.C]
	word := binary.LittleEndian.Uint32(p.mem[at:])
	put := word
	switch {
	case p.instr.Op == impl.OpFetchAdd:
		put = word + c
	case p.instr.Op == impl.OpSwap || word == a:
		put = c
	}
	binary.LittleEndian.PutUint32(p.mem[at:], put)
	return p.put(word)
}

func (p *plain) branch() {
	a, b := p.regs[p.instr.A], p.regs[p.instr.B]
	goes := false
	switch p.instr.Op {
	case impl.OpEq:
		goes = a == b
	case impl.OpNe:
		goes = a != b
	case impl.OpLt:
		goes = int32(a) < int32(b)
	case impl.OpLo:
		goes = a < b
	case impl.OpCall:
		goes = true
		p.put(p.next)
	case impl.OpJump:
		p.put(p.next)
		p.next = b + uint32(p.instr.Imm)
	}
	if goes {
		p.next = uint32(p.m.Pc + 4*p.instr.Imm)
	}
}

func (p *plain) system() bool {
	switch p.instr.Op {
	case impl.OpSys:
		p.m.Pc = int64(p.next)
		return p.trap(impl.CauseSys, 0)
	case impl.OpHyper:
		p.m.Pc = int64(p.next)
		return p.trap(impl.CauseHyper, int64(uint32(p.instr.Imm)))
	case impl.OpRet:
		p.ret()
	case impl.OpWait:
		p.m.State = impl.StateWait
	case impl.OpHalt:
		p.m.State = impl.StateHalt
	case impl.OpGetC, impl.OpPutC:
		return p.control()
	case impl.OpIn, impl.OpOut:
		return p.port()
	}
	return true
}

func (p *plain) ret() {
	p.next = uint32(p.m.Ctl[impl.CtlFrom])
	p.m.Mode = impl.ModeUser
	if p.status(impl.StatusWasKernel) {
		p.m.Mode = impl.ModeKernel
	}
	on := p.m.Ctl[impl.CtlStatus] / 2 % 2
	p.m.Ctl[impl.CtlStatus] = p.m.Ctl[impl.CtlStatus]/4*4 + 2 + on
}

func (p *plain) control() bool {
	number := p.instr.Imm
	made := map[int64]int64{impl.CtlCount: p.m.Count, impl.CtlPending: plainPending(p.m), impl.CtlName: 1212765505}
	value, isMade := made[number]
	switch {
	case number < 0 || number > 11:
		return p.illegal()
	case p.instr.Op == impl.OpGetC && isMade:
		return p.put(uint32(value))
	case p.instr.Op == impl.OpGetC:
		return p.put(uint32(p.m.Ctl[number]))
	case number == impl.CtlStatus:
		p.m.Ctl[number] = int64(p.regs[p.instr.A] % 32)
	case !isMade:
		p.m.Ctl[number] = int64(p.regs[p.instr.A])
	}
	return true
}

func (p *plain) port() bool {
	port := p.instr.Imm
	if port < 0 {
		return p.illegal()
	}
	if p.instr.Op == impl.OpOut {
		if len(p.m.Outs) < 100 {
			p.m.Outs = append(p.m.Outs, impl.PortValue{Port: port, Value: int64(p.regs[p.instr.A])})
		}
		return true
	}
	for at, in := range p.m.Ins {
		if in.Port == port {
			p.m.Ins = append(slices.Clone(p.m.Ins[:at]), p.m.Ins[at+1:]...)
			return p.put(uint32(in.Value))
		}
	}
	return p.put(0xffffffff)
}

func (p *plain) vectors() bool {
	a, b, c := 4*p.instr.A, 4*p.instr.B, 4*p.instr.C
	if p.instr.Op == impl.OpVAdd {
		left, right := slices.Clone(p.m.Vec[b:b+4]), slices.Clone(p.m.Vec[c:c+4])
		for k := range left {
			p.m.Vec[a+int64(k)] = (left[k] + right[k]) % 4294967296
		}
		return true
	}
	acc := int64(impl.AccRead)
	if p.instr.Op == impl.OpVStore {
		acc = impl.AccWrite
	}
	at, found := p.find(int64(p.regs[p.instr.B]), acc, 16)
	if !found {
		return false
	}
	for k := range int64(4) {
		if acc == impl.AccWrite {
			binary.LittleEndian.PutUint32(p.mem[at+4*k:], uint32(p.m.Vec[a+k]))
		} else {
			p.m.Vec[a+k] = int64(binary.LittleEndian.Uint32(p.mem[at+4*k:]))
		}
	}
	return true
}

// checkMachine tells the first part in which two machines are unlike.
func checkMachine(t *testing.T, what string, got impl.Machine, want impl.Machine) {
	t.Helper()
	checkNumbers(t, what+": Pc, Mode, State, Count, Lines, Trace",
		[]int64{got.Pc, got.Mode, got.State, got.Count, got.Lines, got.Trace},
		[]int64{want.Pc, want.Mode, want.State, want.Count, want.Lines, want.Trace})
	checkNumbers(t, what+": Regs", got.Regs, want.Regs)
	checkNumbers(t, what+": Ctl", got.Ctl, want.Ctl)
	checkNumbers(t, what+": Vec", got.Vec, want.Vec)
	checkPorts(t, what+": Ins", got.Ins, want.Ins)
	checkPorts(t, what+": Outs", got.Outs, want.Outs)
	if got.Mem != want.Mem {
		t.Errorf("%s: Mem is another one, first at %d", what, firstUnlike(got.Mem, want.Mem))
	}
}

func firstUnlike(a string, b string) int {
	for at := range min(len(a), len(b)) {
		if a[at] != b[at] {
			return at
		}
	}
	return min(len(a), len(b))
}

func checkNumbers(t *testing.T, what string, got []int64, want []int64) {
	t.Helper()
	if !slices.Equal(got, want) {
		t.Errorf("%s: got %v, want %v", what, got, want)
	}
}

func checkPorts(t *testing.T, what string, got []impl.PortValue, want []impl.PortValue) {
	t.Helper()
	if !slices.Equal(got, want) {
		t.Errorf("%s: got %v, want %v", what, got, want)
	}
}

func checkStepped(t *testing.T, what string, got impl.Stepped, want impl.Stepped) {
	t.Helper()
	checkNumbers(t, what+": Code, Pc, Word, Cause", []int64{got.Code, got.Pc, got.Word, got.Cause}, []int64{want.Code, want.Pc, want.Word, want.Cause})
	checkNumbers(t, what+": Uses", got.Uses, want.Uses)
	checkMachine(t, what, got.Machine, want.Machine)
}

func machineText(m impl.Machine) string {
	return fmt.Sprintf("machine at %d, Mode %d, State %d, Status %d, %d frames", m.Pc, m.Mode, m.State, m.Ctl[impl.CtlStatus], len(m.Mem)/256)
}

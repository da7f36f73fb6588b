package tests

import (
	"math/rand"
	"slices"
	"testing"

	"loop.example/g00038/impl"
)

// plainBlock is what chapter 6 says of BlockAt, said once more, of a place that is in memory.
func plainBlock(mem string, at int64) []int64 {
	ends := []int64{
		impl.OpEq, impl.OpNe, impl.OpLt, impl.OpLo, impl.OpCall, impl.OpJump, impl.OpSys, impl.OpRet, impl.OpWait, impl.OpGetC,
		impl.OpPutC, impl.OpFlush, impl.OpIn, impl.OpOut, impl.OpHyper, impl.OpHalt,
	}
	var words []int64
	for {
		words = append(words, wordAt(mem, at))
		read := impl.Decode(wordAt(mem, at))
		if !read.Good || slices.Contains(ends, read.Instr.Op) || at%256 == 252 || len(words) == 8 {
			return words
		}
		at += 4
	}
}

// plainAhead is the step ahead, which was at a place in a block.
type plainAhead struct {
	over    bool
	block   int64
	kept    bool
	last    bool
	at      int64
	trapped bool
}

// plainBlocks is what chapter 6 says of RunBlocks, said once more: blocks and links are known by their places alone, and
// memory is held as a whole against what it was.
type plainBlocks struct {
	sizes map[int64]int
	links map[[2]int64]bool
	ahead plainAhead
	told  impl.BlockRun
}

// plainFetched tells the real place at which a step has read its instruction, if it has.
func plainFetched(m impl.Machine, step impl.Stepped) (int64, bool) {
	if len(step.Uses) == 0 {
		return 0, false
	}
	if m.Ctl[impl.CtlStatus]&impl.StatusPaged == 0 {
		return m.Pc, m.Pc < int64(len(m.Mem))
	}
	if m.Pc >= 262144 {
		return 0, false
	}
	fault, place, _, _, _ := plainWalk(m.Mem, m.Ctl[impl.CtlTable]%256, m.Pc, impl.AccFetch, m.Mode == impl.ModeUser)
	return place, fault == 0
}

func (p *plainBlocks) goes(at int64) {
	delete(p.sizes, at)
	p.told.Dropped++
	for link := range p.links {
		if link[0] == at || link[1] == at {
			delete(p.links, link)
		}
	}
	if p.ahead.block == at {
		p.ahead.kept = false
	}
}

func (p *plainBlocks) make(mem string, place int64) {
	if len(p.sizes) == 32 {
		for at := range p.sizes {
			p.goes(at)
		}
	}
	p.sizes[place] = len(plainBlock(mem, place))
	p.told.Made++
}

func (p *plainBlocks) enter(mem string, place int64) {
	p.told.Entered++
	if p.sizes[place] == 0 {
		p.make(mem, place)
	}
	link := [2]int64{p.ahead.block, place}
	if !p.ahead.over && p.ahead.last && p.ahead.kept && !p.ahead.trapped {
		if p.links[link] {
			p.told.Chained++
		}
		p.links[link] = true
	}
	p.ahead.block = place
}

func (p *plainBlocks) step(m impl.Machine, step impl.Stepped) {
	place, read := plainFetched(m, step)
	if !read {
		p.ahead = plainAhead{over: true}
		return
	}
	a := p.ahead
	if a.over || !a.kept || a.last || a.trapped || place != a.at+4 {
		p.enter(m.Mem, place)
	}
	block := p.ahead.block
	p.ahead = plainAhead{
		block: block, kept: true, at: place, last: place == block+4*int64(p.sizes[block]-1), trapped: step.Cause != 0,
	}
	for at := range p.sizes {
		frame := at / 256 * 256
		if m.Mem[frame:frame+256] != step.Machine.Mem[frame:frame+256] {
			p.goes(at)
		}
	}
}

// plainRun is for right machines and right numbers of steps.
func plainRun(m impl.Machine, steps int64) impl.BlockRun {
	p := &plainBlocks{sizes: map[int64]int{}, links: map[[2]int64]bool{}, ahead: plainAhead{over: true}}
	for p.told.Steps < steps && m.State != impl.StateHalt {
		if m.Count == endCount {
			return impl.BlockRun{Code: impl.ErrLimit}
		}
		step := plainStep(m)
		p.step(m, step)
		m = step.Machine
		p.told.Steps++
	}
	p.told.Machine = m
	return p.told
}

func checkBlockRun(t *testing.T, what string, got impl.BlockRun, want impl.BlockRun) {
	t.Helper()
	checkNumbers(t, what+": Code, Steps", []int64{got.Code, got.Steps}, []int64{want.Code, want.Steps})
	checkNumbers(t, what+": Made, Entered, Chained, Dropped",
		[]int64{got.Made, got.Entered, got.Chained, got.Dropped}, []int64{want.Made, want.Entered, want.Chained, want.Dropped})
	checkMachine(t, what, got.Machine, want.Machine)
}

// checkSame holds a run by blocks against the run without them, which is what P11 says.
func checkSame(t *testing.T, what string, m impl.Machine, steps int64) impl.BlockRun {
	t.Helper()
	got := impl.RunBlocks(m, steps)
	checkRun(t, what+": without blocks", impl.MachineRun{Code: got.Code, Machine: got.Machine, Steps: got.Steps}, impl.RunMachine(m, steps))
	return got
}

// checkBlocks holds a run also against plain steps, and its four counts against those told, in their order.
func checkBlocks(t *testing.T, what string, m impl.Machine, steps int64, counts ...int64) impl.BlockRun {
	t.Helper()
	before := copyMachine(m)
	got := checkSame(t, what, m, steps)
	checkBlockRun(t, what+": by plain steps", got, plainRun(m, steps))
	checkNumbers(t, what+": Made, Entered, Chained, Dropped", []int64{got.Made, got.Entered, got.Chained, got.Dropped}, counts)
	checkMachine(t, what+": what was handed in", m, before)
	return got
}

// blockInstr is an instruction whose places are often near to where it is, and whose registers are few.
func blockInstr(rng *rand.Rand) impl.Instr {
	r := func() int64 { return rng.Int63n(7) }
	near := func() int64 { return rng.Int63n(21) - 10 }
	i := impl.Instr{A: r(), B: r()}
	switch kind := rng.Intn(20); {
	case kind < 5:
		i.Op, i.Imm = impl.OpAddI+rng.Int63n(4), 4*near()
	case kind < 7:
		i.Op, i.C = impl.OpAdd+rng.Int63n(13), r()
	case kind < 10:
		i.Op, i.Imm = impl.OpLoad+rng.Int63n(4), 4*near()
	case kind < 11:
		i.Op, i.C = impl.OpFetchAdd+rng.Int63n(3), r()
	case kind < 14:
		i.Op, i.Imm = impl.OpEq+rng.Int63n(4), near()
	case kind < 15:
		i = impl.Instr{Op: impl.OpCall, A: r(), Imm: near()}
	case kind < 16:
		i.Op, i.Imm = impl.OpJump, 4*near()
	case kind < 18:
		i = blockSystem(rng, i)
	default:
		i.Op, i.A = []int64{impl.OpVLoad, impl.OpVStore, impl.OpVAdd}[rng.Intn(3)], rng.Int63n(4)
		if i.Op == impl.OpVAdd {
			i.B, i.C = rng.Int63n(4), rng.Int63n(4)
		}
	}
	return i
}

func blockSystem(rng *rand.Rand, i impl.Instr) impl.Instr {
	bare := []int64{impl.OpSys, impl.OpSys, impl.OpSys, impl.OpRet, impl.OpRet, impl.OpRet, impl.OpFlush, impl.OpWait}
	switch kind := rng.Intn(16); {
	case kind < 8:
		return impl.Instr{Op: bare[kind]}
	case kind < 11:
		return impl.Instr{Op: impl.OpGetC, A: i.A, Imm: rng.Int63n(13)}
	case kind < 12:
		return impl.Instr{Op: impl.OpPutC, A: i.A, Imm: []int64{impl.CtlScratch, impl.CtlTimer, impl.CtlFrom}[rng.Intn(3)]}
	case kind < 14:
		return impl.Instr{Op: impl.OpIn + rng.Int63n(2), A: i.A, Imm: rng.Int63n(3)}
	case kind < 15:
		return impl.Instr{Op: impl.OpHyper, Imm: 5}
	default:
		return impl.Instr{Op: []int64{impl.OpFlush, impl.OpFlush, impl.OpFlush, impl.OpHalt}[rng.Intn(4)]}
	}
}

// blockMachine is a right machine that is full of code which goes round, writes to itself, traps and is stopped by lines.
func blockMachine(rng *rand.Rand) impl.Machine {
	frames := []int{1, 2, 3, 4, 6, 33}[rng.Intn(6)]
	m := impl.NewMachine(emptyMemory(frames))
	for at := int64(0); at < int64(len(m.Mem)); at += 4 {
		m.Mem = withWord(m.Mem, at, wordOfInstr(blockInstr(rng)))
	}
	place := func() int64 { return 4 * rng.Int63n(int64(min(frames, 6))*64) }
	for n := 1; n < 16; n++ {
		m.Regs[n], m.Vec[n] = place(), rng.Int63n(2)*place()
	}
	m.Pc, m.Ctl[impl.CtlVector], m.Ctl[impl.CtlFrom] = place(), place(), place()
	home := rng.Int63n(int64(min(frames, 6)))
	if rng.Intn(4) > 0 {
		m = withSkips(m, home*256+160)
	}
	m.Mode, m.Count, m.Trace = rng.Int63n(2), rng.Int63n(50), rng.Int63n(impl.MixPrime)
	m.Ctl[impl.CtlStatus] = rng.Int63n(16)
	m.Ctl[impl.CtlTimer] = []int64{0, 0, m.Count + 3, m.Count + 20}[rng.Intn(4)]
	m.Ctl[impl.CtlEnable] = []int64{0, 0x80, 0xff, 0x0f}[rng.Intn(4)]
	m.Lines = []int64{0, 0, 0x11, 0x7f}[rng.Intn(4)]
	m.Ins = []impl.PortValue{{Port: 1, Value: place()}, {Port: 2, Value: place()}}
	if rng.Intn(2) == 0 {
		m = blockPages(rng, m, home)
	}
	return m
}

// withSkips lets a trap lead to code that goes on behind what trapped, so that a run is not all traps.
func withSkips(m impl.Machine, at int64) impl.Machine {
	m.Ctl[impl.CtlVector] = at
	m.Mem = fourWords(m.Mem, at, []int64{
		wordOfInstr(impl.Instr{Op: impl.OpGetC, A: 7, Imm: impl.CtlFrom}),
		wordOfInstr(impl.Instr{Op: impl.OpAddI, A: 7, B: 7, Imm: 4}),
		wordOfInstr(impl.Instr{Op: impl.OpPutC, A: 7, Imm: impl.CtlFrom}),
		wordOfInstr(impl.Instr{Op: impl.OpRet}),
	})
	return m
}

// blockPages puts a machine behind a table, which is often among the frames that are run and written to. The frame home
// is where its kernel can go on.
func blockPages(rng *rand.Rand, m impl.Machine, home int64) impl.Machine {
	frames := int64(len(m.Mem) / 256)
	root, second := rng.Int63n(min(frames, 6)), rng.Int63n(min(frames, 6))
	m.Ctl[impl.CtlStatus] |= impl.StatusPaged
	m.Ctl[impl.CtlTable] = 256*rng.Int63n(4) + root
	flags := func() int64 {
		f := int64(flagV | flagR | flagW | flagX)
		if rng.Intn(3) == 0 {
			f |= flagA | flagD
		}
		if rng.Intn(8) == 0 {
			f &^= []int64{flagV, flagR, flagW, flagX}[rng.Intn(4)]
		}
		return f | flagU*rng.Int63n(2)*rng.Int63n(2)
	}
	for page := range int64(6) {
		m.Mem = withEntries(m.Mem, tableEntry{second, page, rng.Int63n(min(frames, 6)), flags()})
	}
	m.Mem = withEntries(m.Mem, tableEntry{second, home, home, flagV | flagR | flagX}, tableEntry{root, 0, second, flagV})
	if root != second {
		m.Mem = withEntries(m.Mem, tableEntry{root, 1, 0, flags()})
		m.Regs[3], m.Regs[4] = m.Regs[3]+8192, m.Regs[4]+8192
	}
	if rng.Intn(2) == 0 {
		m.Mode = impl.ModeKernel
	}
	return m
}

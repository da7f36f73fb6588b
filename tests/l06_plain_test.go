package tests

import (
	"math/rand"
	"slices"
	"strings"
	"testing"

	"loop.example/g00038/impl"
)

// plainUse is one address that a step used: the tables that its lookup read, the one whose entry it changed (or -1), and
// the real place to which it led (or -1).
type plainUse struct {
	address int64
	acc     int64
	tables  []int64
	changed int64
	place   int64
}

// plainUses looks the addresses of a step up once more, one behind the other.
func plainUses(m impl.Machine, step impl.Stepped) []plainUse {
	var uses []plainUse
	mem := m.Mem
	for n := 0; n < len(step.Uses); n += 2 {
		use := plainUse{address: step.Uses[n], acc: step.Uses[n+1], changed: -1, place: -1}
		switch {
		case m.Ctl[impl.CtlStatus]&impl.StatusPaged == 0:
			if use.address < int64(len(mem)) {
				use.place = use.address
			}
		case use.address < 262144:
			w := plainWalked(mem, m.Ctl[impl.CtlTable]%256, use.address, use.acc, m.Mode == impl.ModeUser)
			use.tables = w.Reads
			if w.Fault == 0 {
				use.place = w.Pa
			}
			if w.Mem != mem {
				use.changed = w.Reads[len(w.Reads)-1]
			}
			mem = w.Mem
		}
		uses = append(uses, use)
	}
	return uses
}

// plainShadow is what chapter 7 says of RunShadow, said once more.
type plainShadow struct {
	frames []int64
	told   impl.ShadowRun
}

func (p *plainShadow) use(m impl.Machine, use plainUse) {
	root := int64(-1)
	if m.Ctl[impl.CtlStatus]/16%2 == 1 {
		root = m.Ctl[impl.CtlTable] % 256
	}
	for n, e := range p.told.Entries {
		if e.User != (m.Mode == impl.ModeUser) || e.Root != root || e.Page != use.address/256 {
			continue
		}
		if use.acc == impl.AccWrite && !e.Dirty {
			p.told.Dirties++
			p.told.Entries[n].Dirty = true
		}
		return
	}
	p.told.Fills++
	p.told.Entries = append(p.told.Entries, impl.ShadowEntry{
		User: m.Mode == impl.ModeUser, Root: root, Page: use.address / 256,
		Frame: p.frames[use.place/256], Dirty: use.acc == impl.AccWrite, Tables: use.tables,
	})
	if len(p.told.Entries) > 64 {
		p.told.Entries = p.told.Entries[1:]
		p.told.Dropped++
	}
}

// lose lets the entries go that are made of that table, or all for -1, and tells how many.
func (p *plainShadow) lose(table int64) int64 {
	var kept []impl.ShadowEntry
	for _, e := range p.told.Entries {
		if table >= 0 && !slices.Contains(e.Tables, table) {
			kept = append(kept, e)
		}
	}
	gone := int64(len(p.told.Entries) - len(kept))
	p.told.Entries, p.told.Dropped = kept, p.told.Dropped+gone
	return gone
}

func (p *plainShadow) done(step impl.Stepped, uses []plainUse) {
	kernel := []int64{impl.OpRet, impl.OpWait, impl.OpGetC, impl.OpPutC, impl.OpFlush, impl.OpIn, impl.OpOut, impl.OpHyper, impl.OpHalt}
	puts := []int64{impl.OpStore, impl.OpStoreB, impl.OpVStore, impl.OpFetchAdd, impl.OpSwap, impl.OpIfSame}
	op := impl.Decode(step.Word).Instr.Op
	if slices.Contains(kernel, op) {
		p.told.Privs++
	}
	if slices.Contains(puts, op) && p.lose(uses[1].place/256) > 0 {
		p.told.Writes++
	}
	if op == impl.OpFlush {
		p.lose(-1)
	}
}

func (p *plainShadow) step(m impl.Machine, step impl.Stepped) {
	uses := plainUses(m, step)
	for _, use := range uses {
		if use.place >= 0 {
			p.use(m, use)
		}
	}
	switch {
	case step.Cause >= 32:
		p.told.Lines++
	case step.Cause == impl.CauseHyper:
		p.told.Privs++
		p.told.Traps++
	case step.Cause > 0:
		p.told.Traps++
	default:
		p.done(step, uses)
	}
}

// plainLaid is host with that memory in its frames.
func plainLaid(mem string, frames []int64, host string) string {
	bytes := []byte(host)
	for n, frame := range frames {
		copy(bytes[256*frame:256*frame+256], mem[256*n:])
	}
	return string(bytes)
}

// plainShadowRun is for right machines at right places, and right numbers of steps.
func plainShadowRun(m impl.Machine, frames []int64, host string, steps int64) impl.ShadowRun {
	p := &plainShadow{frames: frames}
	for p.told.Steps < steps && m.State != impl.StateHalt {
		if m.Count == endCount {
			return impl.ShadowRun{Code: impl.ErrLimit}
		}
		step := plainStep(m)
		p.step(m, step)
		m = step.Machine
		p.told.Steps++
	}
	p.told.Machine, p.told.Host = m, plainLaid(m.Mem, frames, host)
	return p.told
}

func sameEntry(a impl.ShadowEntry, b impl.ShadowEntry) bool {
	return a.User == b.User && a.Root == b.Root && a.Page == b.Page && a.Frame == b.Frame && a.Dirty == b.Dirty &&
		slices.Equal(a.Tables, b.Tables)
}

func checkEntries(t *testing.T, what string, got []impl.ShadowEntry, want []impl.ShadowEntry) {
	t.Helper()
	if !slices.EqualFunc(got, want, sameEntry) {
		t.Errorf("%s: Entries: got %+v, want %+v", what, got, want)
	}
}

// exitsOf has the counts in the order in which they stand in a run.
func exitsOf(r impl.ShadowRun) []int64 {
	return []int64{r.Fills, r.Dirties, r.Writes, r.Dropped, r.Privs, r.Traps, r.Lines}
}

func checkShadowRun(t *testing.T, what string, got impl.ShadowRun, want impl.ShadowRun) {
	t.Helper()
	checkNumbers(t, what+": Code, Steps", []int64{got.Code, got.Steps}, []int64{want.Code, want.Steps})
	checkNumbers(t, what+": Fills, Dirties, Writes, Dropped, Privs, Traps, Lines", exitsOf(got), exitsOf(want))
	checkEntries(t, what, got.Entries, want.Entries)
	checkMachine(t, what, got.Machine, want.Machine)
	if got.Host != want.Host {
		t.Errorf("%s: Host is another one, first at %d", what, firstUnlike(got.Host, want.Host))
	}
}

// sampleHost is greater than the machine by four frames, if it can be; the guest's own ones are in falling order, with
// others ahead of, behind and between them.
func sampleHost(m impl.Machine) (frames []int64, host string) {
	count := len(m.Mem) / 256
	size := min(count+4, 256)
	last, gap := int64(count-1), int64(0)
	if size == count+4 {
		last, gap = int64(size-2), 1
	}
	for n := range int64(count) {
		frames = append(frames, last-n-gap*(2*n/int64(count)))
	}
	return frames, strings.Repeat("host", 64*size)
}

// checkPlace is the part of P12 that tells of the host.
func checkPlace(t *testing.T, what string, got impl.ShadowRun, frames []int64, host string) {
	t.Helper()
	for n := range int64(len(host) / 256) {
		mine := slices.Contains(frames, n)
		if !mine && got.Host[256*n:256*n+256] != host[256*n:256*n+256] {
			t.Errorf("%s: frame %d of the host is another one", what, n)
		}
	}
	for _, e := range got.Entries {
		if !slices.Contains(frames, e.Frame) {
			t.Errorf("%s: entry %+v leads elsewhere", what, e)
		}
	}
	if taken := impl.TakeMemory(frames, got.Host); taken != got.Machine.Mem {
		t.Errorf("%s: what lies in the host is not the guest's memory, first at %d", what, firstUnlike(taken, got.Machine.Mem))
	}
}

// checkShadowSame holds a run with shadow tables against the run without them, which is what P12 says.
func checkShadowSame(t *testing.T, what string, m impl.Machine, steps int64) impl.ShadowRun {
	t.Helper()
	frames, host := sampleHost(m)
	got := impl.RunShadow(m, frames, host, steps)
	checkRun(t, what+": without shadow", impl.MachineRun{Code: got.Code, Machine: got.Machine, Steps: got.Steps}, impl.RunMachine(m, steps))
	if got.Code == impl.OK {
		checkPlace(t, what, got, frames, host)
	}
	return got
}

// checkShadow holds a run also against plain steps, and its seven counts against those told, in their order.
func checkShadow(t *testing.T, what string, m impl.Machine, steps int64, counts ...int64) impl.ShadowRun {
	t.Helper()
	before := copyMachine(m)
	got := checkShadowSame(t, what, m, steps)
	frames, host := sampleHost(m)
	checkShadowRun(t, what+": by plain steps", got, plainShadowRun(m, frames, host, steps))
	checkNumbers(t, what+": Fills, Dirties, Writes, Dropped, Privs, Traps, Lines", exitsOf(got), counts)
	checkMachine(t, what+": what was handed in", m, before)
	return got
}

// shadowMachine is full of code as a machine of blocks is, which also goes from one table to another, and to none.
func shadowMachine(rng *rand.Rand) impl.Machine {
	m := blockMachine(rng)
	frames := min(int64(len(m.Mem)/256), 6)
	for range 3 * frames {
		at := 4 * rng.Int63n(frames*64)
		i := impl.Instr{Op: impl.OpPutC, A: 8 + rng.Int63n(4), Imm: []int64{impl.CtlTable, impl.CtlTable, impl.CtlStatus}[rng.Intn(3)]}
		if readEntry(m.Mem, at/256, at%256/4)&flagV == 0 {
			m.Mem = withWord(m.Mem, at, wordOfInstr(i))
		}
	}
	root := m.Ctl[impl.CtlTable]
	m.Regs[8], m.Regs[9], m.Regs[10], m.Regs[11] = root, root+256, 16+rng.Int63n(16), rng.Int63n(frames)
	return m
}

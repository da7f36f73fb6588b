package tests

import (
	"math/rand"
	"slices"
	"strings"
	"testing"

	"loop.example/g00038/impl"
)

// nest is a host into which a guest's memory comes, out of free, behind its table root.
type nest struct {
	host string
	root int64
	free []int64
}

func runIn(n nest, m impl.Machine, steps int64) impl.NestedRun {
	return impl.RunNested(m, n.host, n.root, n.free, steps)
}

// frameIn is one frame of a memory.
func frameIn(mem string, number int64) string {
	return mem[256*number : 256*number+256]
}

// mappedIn is where the table root leads from a guest's frame, or -1.
func mappedIn(host string, root int64, number int64) int64 {
	first := readEntry(host, root, number/32)
	if first&flagV == 0 {
		return -1
	}
	second := readEntry(host, first/256, number%32)
	if second&flagV == 0 {
		return -1
	}
	return second / 256
}

// plainNested is what chapter 8 says of RunNested, said once more. Short tells that free was used up; apart counts the
// vectors that were put into two frames.
type plainNested struct {
	root  int64
	dirty [256]bool
	short bool
	apart int
	told  impl.NestedRun
}

func (p *plainNested) take() int64 {
	if len(p.told.Free) == 0 {
		p.short = true
		return 0
	}
	number := p.told.Free[0]
	p.told.Free = p.told.Free[1:]
	return number
}

func (p *plainNested) touch(number int64) {
	if p.short || mappedIn(p.told.Host, p.root, number) >= 0 {
		return
	}
	p.told.Touches++
	if readEntry(p.told.Host, p.root, number/32) == 0 {
		table := p.take()
		if p.short {
			return
		}
		p.told.Host = plainLaid(emptyMemory(1), []int64{table}, p.told.Host)
		p.told.Host = withEntries(p.told.Host, tableEntry{p.root, number / 32, table, flagV})
	}
	place := p.take()
	if p.short {
		return
	}
	table := readEntry(p.told.Host, p.root, number/32) / 256
	p.told.Host = withEntries(p.told.Host, tableEntry{table, number % 32, place, flagV | flagR | flagW})
}

// lay puts each of the guest's frames to where it stands in the host, if it stands there.
func (p *plainNested) lay(mem string) {
	for number := range int64(len(mem) / 256) {
		place := mappedIn(p.told.Host, p.root, number)
		if place >= 0 {
			p.told.Host = plainLaid(frameIn(mem, number), []int64{place}, p.told.Host)
		}
	}
}

func (p *plainNested) step(m impl.Machine, step impl.Stepped) {
	uses := plainUses(m, step)
	for _, use := range uses {
		for _, table := range use.tables {
			p.touch(table)
		}
		if use.place >= 0 {
			p.touch(use.place / 256)
		}
	}
	for _, use := range uses {
		if use.changed >= 0 {
			p.dirty[use.changed] = true
		}
		if use.place < 0 || use.acc != impl.AccWrite {
			continue
		}
		p.dirty[use.place/256] = true
		if impl.Decode(step.Word).Instr.Op == impl.OpVStore && use.place%256 > 240 {
			p.apart++
		}
	}
}

// plainNestedRun is for right machines in right nests, and right numbers of steps.
func plainNestedRun(n nest, m impl.Machine, steps int64) (told impl.NestedRun, apart int) {
	p := &plainNested{root: n.root, told: impl.NestedRun{Host: n.host, Free: n.free}}
	for p.told.Steps < steps && m.State != impl.StateHalt {
		if m.Count == endCount {
			return impl.NestedRun{Code: impl.ErrLimit}, 0
		}
		step := plainStep(m)
		p.step(m, step)
		m = step.Machine
		p.told.Steps++
	}
	if p.short {
		return impl.NestedRun{Code: impl.ErrCount}, 0
	}
	for number, dirty := range p.dirty {
		if dirty {
			p.told.Dirty = append(p.told.Dirty, int64(number))
		}
	}
	p.lay(m.Mem)
	p.told.Machine = m
	return p.told, p.apart
}

func checkNestedRun(t *testing.T, what string, got impl.NestedRun, want impl.NestedRun) {
	t.Helper()
	checkNumbers(t, what+": Code, Steps, Touches", []int64{got.Code, got.Steps, got.Touches}, []int64{want.Code, want.Steps, want.Touches})
	checkNumbers(t, what+": Free", got.Free, want.Free)
	checkNumbers(t, what+": Dirty", got.Dirty, want.Dirty)
	checkMachine(t, what, got.Machine, want.Machine)
	if got.Host != want.Host {
		t.Errorf("%s: Host is another one, first at %d", what, firstUnlike(got.Host, want.Host))
	}
}

func checkNestedCode(t *testing.T, what string, got impl.NestedRun, code int64) {
	t.Helper()
	checkNestedRun(t, what, got, impl.NestedRun{Code: code})
}

// nestWith has a host of that many frames, whose root is 2; free is all others but the first and the last, falling.
func nestWith(size int) nest {
	n := nest{host: strings.Repeat("host", 64*size), root: 2}
	n.host = plainLaid(emptyMemory(1), []int64{2}, n.host)
	for number := int64(size) - 2; number > 0; number-- {
		if number != n.root {
			n.free = append(n.free, number)
		}
	}
	return n
}

// sampleNest has room for all of a machine, if it can be.
func sampleNest(m impl.Machine) nest {
	return nestWith(min(len(m.Mem)/256+12, 256))
}

// randomNest has that many frames, of which some are free, in whatever order.
func randomNest(rng *rand.Rand, size int, free int) nest {
	bytes := make([]byte, 256*size)
	rng.Read(bytes)
	numbers := rng.Perm(size)
	n := nest{root: int64(numbers[0])}
	n.host = plainLaid(emptyMemory(1), []int64{n.root}, string(bytes))
	for _, number := range numbers[1 : 1+free] {
		n.free = append(n.free, int64(number))
	}
	return n
}

// checkBehind is the part of P13 that tells of what was touched: it stands behind the host's table, which maps no more.
func checkBehind(t *testing.T, what string, n nest, got impl.NestedRun) {
	t.Helper()
	maps := impl.ReadMaps(got.Host, n.root)
	checkNumber(t, what+": maps", int64(len(maps)), got.Touches)
	for _, p := range maps {
		if p.Flags != impl.PteR|impl.PteW || p.Large || !slices.Contains(n.free, p.Frame) || slices.Contains(got.Free, p.Frame) {
			t.Errorf("%s: mapped: %+v", what, p)
		}
		if frameIn(got.Host, p.Frame) != frameIn(got.Machine.Mem, p.Va/256) {
			t.Errorf("%s: guest's frame %d is another one in the host", what, p.Va/256)
		}
		table := readEntry(got.Host, n.root, p.Va/8192)
		if entry := readEntry(got.Host, table/256, p.Va/256%32); table&255 != flagV || entry != 256*p.Frame|flagV|flagR|flagW {
			t.Errorf("%s: guest's frame %d has the entries %#x and %#x", what, p.Va/256, table, entry)
		}
	}
}

// checkDirty is the part of P13 that tells of what changed; what is dirty was touched, too.
func checkDirty(t *testing.T, what string, n nest, m impl.Machine, got impl.NestedRun) {
	t.Helper()
	for number := range int64(len(m.Mem) / 256) {
		dirty := slices.Contains(got.Dirty, number)
		if !dirty && frameIn(got.Machine.Mem, number) != frameIn(m.Mem, number) {
			t.Errorf("%s: guest's frame %d has changed and is not dirty", what, number)
		}
		if dirty && mappedIn(got.Host, n.root, number) < 0 {
			t.Errorf("%s: guest's frame %d is dirty and was not touched", what, number)
		}
	}
}

// checkOthers is the part of P13 that tells of the host's other frames; those that are left of free stay, too.
func checkOthers(t *testing.T, what string, n nest, got impl.NestedRun) {
	t.Helper()
	for number := range int64(len(n.host) / 256) {
		mine := number == n.root || slices.Contains(n.free, number) && !slices.Contains(got.Free, number)
		if !mine && frameIn(got.Host, number) != frameIn(n.host, number) {
			t.Errorf("%s: frame %d of the host is another one", what, number)
		}
	}
}

// checkNestedSame holds a run in a nest against the run without one, which is what P13 says.
func checkNestedSame(t *testing.T, what string, n nest, m impl.Machine, steps int64) impl.NestedRun {
	t.Helper()
	got := checkNestedKept(t, what, n, m, steps)
	if got.Code == impl.OK {
		checkDirty(t, what, n, m, got)
	}
	return got
}

// checkNestedKept is all of P13 but the part of what changed, which does not hold of a vector that is put into two frames.
func checkNestedKept(t *testing.T, what string, n nest, m impl.Machine, steps int64) impl.NestedRun {
	t.Helper()
	got := runIn(n, m, steps)
	checkRun(t, what+": without a nest", impl.MachineRun{Code: got.Code, Machine: got.Machine, Steps: got.Steps}, impl.RunMachine(m, steps))
	if got.Code == impl.OK {
		checkBehind(t, what, n, got)
		checkOthers(t, what, n, got)
	}
	return got
}

// checkNestedPlain holds a run against plain steps; P13 is asked where free is enough.
func checkNestedPlain(t *testing.T, what string, n nest, m impl.Machine, steps int64) (got impl.NestedRun, apart int) {
	t.Helper()
	want, apart := plainNestedRun(n, m, steps)
	got = runIn(n, m, steps)
	checkNestedRun(t, what+": by plain steps", got, want)
	if want.Code == impl.ErrCount {
		return got, apart
	}
	if apart == 0 {
		checkNestedSame(t, what, n, m, steps)
	} else {
		checkNestedKept(t, what, n, m, steps)
	}
	return got, apart
}

// checkNested holds a run in the sample's nest also against its guest's frames as they were touched, and its dirty ones.
func checkNested(t *testing.T, what string, m impl.Machine, steps int64, touched []int64, dirty []int64) impl.NestedRun {
	t.Helper()
	before, n := copyMachine(m), sampleNest(m)
	got, _ := checkNestedPlain(t, what, n, m, steps)
	checkMachine(t, what+": what was handed in", m, before)
	checkNumber(t, what+": Touches", got.Touches, int64(len(touched)))
	checkNumbers(t, what+": Dirty", got.Dirty, dirty)
	taken := n.free[:len(n.free)-len(got.Free)]
	checkNumbers(t, what+": Free", got.Free, n.free[len(taken):])
	for _, number := range touched {
		if len(taken) > 0 && readEntry(got.Host, n.root, number/32)/256 == taken[0] {
			taken = taken[1:]
		}
		if len(taken) == 0 || mappedIn(got.Host, n.root, number) != taken[0] {
			t.Errorf("%s: guest's frame %d stands at %d, free was %v", what, number, mappedIn(got.Host, n.root, number), n.free)
			return got
		}
		taken = taken[1:]
	}
	checkNumbers(t, what+": taken and not mapped", taken, nil)
	return got
}

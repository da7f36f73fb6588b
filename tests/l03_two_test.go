package tests

import (
	"encoding/binary"
	"fmt"
	"math"
	"math/rand"
	"testing"

	"loop.example/g00038/impl"
)

// twoLooker does by plainWalked what WalkTwo asks a host's table for.
type twoLooker struct {
	mem   string
	host  int64
	steps int64
}

func (l *twoLooker) look(place int64, acc int64) (hpa int64, good bool) {
	w := plainWalked(l.mem, l.host, place, acc, false)
	l.steps += int64(len(w.Reads))
	l.mem = w.Mem
	return w.Pa, w.Fault == 0
}

func (l *twoLooker) entryAt(hpa int64) int64 {
	l.steps++
	return readEntry(l.mem, hpa/256, hpa%256/4)
}

func (l *twoLooker) answer(fault int64, gpa int64, hpa int64) impl.TwoWalked {
	return impl.TwoWalked{Fault: fault, Gpa: gpa, Hpa: hpa, Steps: l.steps, Mem: l.mem}
}

// plainTwo is what chapter 4 says of WalkTwo, said once more, step by step.
func plainTwo(mem string, host int64, root int64, va int64, acc int64, user bool) impl.TwoWalked {
	l := &twoLooker{mem: mem, host: host}
	at := root*256 + va/8192*4
	hpa, good := l.look(at, impl.AccRead)
	if !good {
		return l.answer(impl.FaultHost, at, 0)
	}
	entry := l.entryAt(hpa)
	large := entry&(flagV|flagR|flagW|flagX) != flagV
	if !large {
		if entry/256 >= 1024 {
			return l.answer(impl.FaultAccess, 0, 0)
		}
		at = entry/256*256 + va/256%32*4
		if hpa, good = l.look(at, impl.AccRead); !good {
			return l.answer(impl.FaultHost, at, 0)
		}
		entry = l.entryAt(hpa)
	}
	needs := map[int64]int64{1: flagV | flagR, 2: flagV | flagW, 3: flagV | flagX}[acc]
	if entry&needs != needs || user && entry&flagU == 0 || !user && acc == 3 && entry&flagU != 0 || large && entry/256%32 != 0 {
		return l.answer(impl.FaultPage, 0, 0)
	}
	page := entry / 256
	if large {
		page += va / 256 % 32
	}
	if page >= 1024 {
		return l.answer(impl.FaultAccess, 0, 0)
	}
	puts := int64(flagA)
	if acc == impl.AccWrite {
		puts |= flagD
	}
	if entry&puts != puts {
		if hpa, good = l.look(at, impl.AccWrite); !good {
			return l.answer(impl.FaultHost, at, 0)
		}
		bytes := []byte(l.mem)
		bytes[hpa] |= byte(puts)
		l.mem = string(bytes)
	}
	gpa := page*256 + va%256
	last := acc
	if acc == impl.AccFetch {
		last = impl.AccRead
	}
	if hpa, good = l.look(gpa, last); !good {
		return l.answer(impl.FaultHost, gpa, 0)
	}
	return l.answer(0, gpa, hpa)
}

func twoText(w impl.TwoWalked) string {
	return fmt.Sprintf("Fault %d Gpa %d Hpa %d Steps %d, Mem of %d bytes", w.Fault, w.Gpa, w.Hpa, w.Steps, len(w.Mem))
}

func checkTwo(t *testing.T, what string, got impl.TwoWalked, want impl.TwoWalked) {
	t.Helper()
	if got == want {
		return
	}
	t.Errorf("%s: got %s, want %s", what, twoText(got), twoText(want))
	for at := range min(len(got.Mem), len(want.Mem)) {
		if got.Mem[at] != want.Mem[at] {
			t.Errorf("%s: byte %d is %#x, want %#x", what, at, got.Mem[at], want.Mem[at])
		}
	}
}

// layGuest lays the guest's frame n into the host's frame places[n], and maps each there, in the host's root 0, with flags of n.
func layGuest(host string, guest string, places []int, tables int64, flagsOf func(n int) int64) string {
	bytes := []byte(host)
	for n, place := range places {
		copy(bytes[place*256:], guest[n*256:n*256+256])
	}
	mem := string(bytes)
	for n, place := range places {
		table := tables + int64(n)/32
		mem = withEntries(mem, tableEntry{0, int64(n) / 32, table, flagV}, tableEntry{table, int64(n) % 32, int64(place), flagsOf(n)})
	}
	return mem
}

// takeGuest is the guest's memory as it lies in the host's.
func takeGuest(host string, places []int) string {
	var guest []byte
	for _, place := range places {
		guest = append(guest, host[place*256:place*256+256]...)
	}
	return string(guest)
}

// hostOf is an empty host's memory but for tables in frames 0 to 8, with a guest in frames in any order behind these.
func hostOf(rng *rand.Rand, guest string, flagsOf func(n int) int64) (host string, places []int) {
	for _, place := range rng.Perm(256 - 9)[:len(guest)/256] {
		places = append(places, place+9)
	}
	return layGuest(emptyMemory(256), guest, places, 1, flagsOf), places
}

func readWrite(int) int64 {
	return flagV | flagR | flagW
}

func TestP7WalkTwoLeadsWhereWalkLeads(t *testing.T) {
	rng := rand.New(rand.NewSource(71))
	seen := map[int64]int{}
	for _, frames := range []int{1, 3, 40, 240} {
		for range 4 {
			guest := randomTables(rng, frames)
			host, places := hostOf(rng, guest, readWrite)
			for range 150 {
				root, va := rng.Int63n(int64(min(frames, 4))), rng.Int63n(impl.MaxVa)
				acc, user := 1+rng.Int63n(3), rng.Intn(2) == 0
				one := impl.Walk(guest, root, va, acc, user)
				two := impl.WalkTwo(host, 0, root, va, acc, user)
				seen[one.Fault]++
				if one.Fault != impl.FaultAccess {
					checkText(t, "the guest's memory behind WalkTwo", takeGuest(two.Mem, places), one.Mem)
				}
				switch one.Fault {
				case 0:
					checkNumber(t, "Fault", two.Fault, 0)
					checkNumber(t, "Gpa", two.Gpa, one.Pa)
					checkNumber(t, "Hpa", two.Hpa, int64(places[one.Pa/256]*256)+one.Pa%256)
				case impl.FaultPage:
					checkNumber(t, "Fault of a page", two.Fault, impl.FaultPage)
				default:
					if two.Fault != impl.FaultHost && two.Fault != impl.FaultAccess {
						t.Errorf("a frame that is not in the guest's memory: Fault %d", two.Fault)
					}
				}
			}
		}
	}
	for _, fault := range []int64{0, impl.FaultPage, impl.FaultAccess} {
		if seen[fault] < 50 {
			t.Errorf("no more than %d walks with fault %d were seen", seen[fault], fault)
		}
	}
}

func TestWalkTwoAgainstPlainTwo(t *testing.T) {
	rng := rand.New(rand.NewSource(72))
	seen := map[int64]int{}
	hostFlags := func(int) int64 {
		return []int64{flagV | flagR | flagW, flagV | flagR | flagW, flagV | flagR, flagV | flagW, 0, flagV | flagR | flagW | flagX | flagU, flagV | flagR | flagW | flagA | flagD}[rng.Intn(7)]
	}
	for range 30 {
		host, _ := hostOf(rng, randomTables(rng, 64), hostFlags)
		host = withEntries(host, tableEntry{0, 31, 224, flagV | flagR | flagW}, tableEntry{0, 30, 255, flagV | flagR})
		for range 60 {
			root, va, acc, user := rng.Int63n(5), rng.Int63n(impl.MaxVa), 1+rng.Int63n(3), rng.Intn(2) == 0
			want := plainTwo(host, 0, root, va, acc, user)
			checkTwo(t, fmt.Sprintf("root %d, address %#x, access %d, user %v", root, va, acc, user), impl.WalkTwo(host, 0, root, va, acc, user), want)
			seen[want.Fault]++
		}
	}
	for fault := range int64(4) {
		if seen[fault] < 15 {
			t.Errorf("no more than %d walks with fault %d were seen", seen[fault], fault)
		}
	}
}

func TestWalkTwoRefusesWrongInputs(t *testing.T) {
	mem := withEntries(emptyMemory(2), tableEntry{0, 0, 0, flagV | flagR | flagW})
	if impl.WalkTwo(mem, 0, 0, 0, 1, false).Mem == "" {
		t.Fatal("the walk that the wrong ones are beside is refused")
	}
	wrong := []struct {
		what string
		mem  string
		host int64
		root int64
		va   int64
		acc  int64
	}{
		{"no memory", "", 0, 0, 0, 1},
		{"too much memory", emptyMemory(257), 0, 0, 0, 1},
		{"a broken frame", mem[:300], 0, 0, 0, 1},
		{"host -1", mem, -1, 0, 0, 1},
		{"host 256", mem, 256, 0, 0, 1},
		{"root -1", mem, 0, -1, 0, 1},
		{"root 256", mem, 0, 256, 0, 1},
		{"the greatest root", mem, 0, math.MaxInt64, 0, 1},
		{"address -1", mem, 0, 0, -1, 1},
		{"address MaxVa", mem, 0, 0, impl.MaxVa, 1},
		{"access 0", mem, 0, 0, 0, 0},
		{"access 4", mem, 0, 0, 0, 4},
	}
	for _, w := range wrong {
		checkTwo(t, w.what, impl.WalkTwo(w.mem, w.host, w.root, w.va, w.acc, false), impl.TwoWalked{})
	}
}

// smallHost has its root in frame 0, its second table in frame 1, and a guest of three frames in 4, 5, 6.
func smallHost(guestEntries ...tableEntry) string {
	return layGuest(emptyMemory(8), withEntries(emptyMemory(3), guestEntries...), []int{4, 5, 6}, 1, readWrite)
}

func TestWalkTwoOfAHostThatIsNotInMemory(t *testing.T) {
	mem := smallHost()
	checkTwo(t, "host 255 of eight frames", impl.WalkTwo(mem, 255, 1, vaOf(3, 0, 0), 1, false), impl.TwoWalked{
		Fault: impl.FaultHost, Gpa: 256 + 12, Mem: mem})
}

func TestWalkTwoHostFaultOfEachLookup(t *testing.T) {
	entries := []tableEntry{{0, 3, 1, flagV}, {1, 5, 2, flagV | flagR | flagW}}
	va := vaOf(3, 5, 9)
	host := smallHost(entries...)
	read := func(n int64) tableEntry { return tableEntry{1, n, 4 + n, flagV | flagR} }
	none := func(n int64) tableEntry { return tableEntry{1, n, 4 + n, 0} }
	seen := func(n int64, flags int64) tableEntry {
		return tableEntry{1, n, 4 + n, flagV | flagR | flags}
	}

	first := withEntries(host, none(0))
	checkTwo(t, "the root's entry", impl.WalkTwo(first, 0, 0, va, 1, false), impl.TwoWalked{
		Fault: impl.FaultHost, Gpa: 12, Steps: 2, Mem: first})

	second := withEntries(host, none(1))
	checkTwo(t, "the second entry", impl.WalkTwo(second, 0, 0, va, 1, false), impl.TwoWalked{
		Fault: impl.FaultHost, Gpa: 256 + 20, Steps: 5, Mem: withEntries(second, seen(0, flagW|flagA))})

	flags := withEntries(host, read(1))
	checkTwo(t, "the flags", impl.WalkTwo(flags, 0, 0, va, 1, false), impl.TwoWalked{
		Fault: impl.FaultHost, Gpa: 256 + 20, Steps: 8,
		Mem: withEntries(flags, seen(0, flagW|flagA), seen(1, flagA))})

	last := withEntries(host, read(2))
	checkTwo(t, "the page", impl.WalkTwo(last, 0, 0, va, 2, false), impl.TwoWalked{
		Fault: impl.FaultHost, Gpa: 512 + 9, Steps: 10,
		Mem: withEntries(last, seen(0, flagW|flagA), seen(1, flagW|flagA|flagD), tableEntry{5, 5, 2, flagV | flagR | flagW | flagA | flagD})})
}

func TestWalkTwoAsksToWriteOnlyWhereFlagsLack(t *testing.T) {
	readOnly := func(guest string) string {
		return layGuest(emptyMemory(8), guest, []int{4, 5, 6}, 1, func(n int) int64 {
			if n == 2 {
				return flagV | flagR | flagW
			}
			return flagV | flagR
		})
	}
	there := func(flags int64) string {
		return readOnly(withEntries(emptyMemory(3), tableEntry{0, 3, 1, flagV}, tableEntry{1, 5, 2, flagV | flagR | flagW | flags}))
	}
	faults := []struct {
		flags, acc, fault, steps int64
	}{
		{0, impl.AccRead, impl.FaultHost, 8},
		{flagD, impl.AccRead, impl.FaultHost, 8},
		{flagA, impl.AccRead, 0, 8},
		{flagA, impl.AccWrite, impl.FaultHost, 8},
		{flagD, impl.AccWrite, impl.FaultHost, 8},
		{flagA | flagD, impl.AccWrite, 0, 8},
	}
	for _, f := range faults {
		two := impl.WalkTwo(there(f.flags), 0, 0, vaOf(3, 5, 9), f.acc, false)
		what := fmt.Sprintf("flags %d, access %d", f.flags, f.acc)
		checkNumber(t, what+": Fault", two.Fault, f.fault)
		checkNumber(t, what+": Steps", two.Steps, f.steps)
		if f.fault == 0 {
			checkNumber(t, what+": Gpa", two.Gpa, 521)
			checkNumber(t, what+": Hpa", two.Hpa, 6*256+9)
		} else {
			checkNumber(t, what+": Gpa", two.Gpa, 276)
		}
	}
}

func TestWalkTwoFaultsOfTheGuest(t *testing.T) {
	rw := int64(flagV | flagR | flagW)
	faults := []struct {
		what    string
		entries []tableEntry
		fault   int64
		gpa     int64
		steps   int64
		looked  []int64
	}{
		{"no entry", nil, impl.FaultPage, 0, 3, []int64{0}},
		{"a large page that is no multiple", []tableEntry{{0, 3, 33, rw}}, impl.FaultPage, 0, 3, []int64{0}},
		{"a large page that is no multiple, of 1025", []tableEntry{{0, 3, 1025, rw}}, impl.FaultPage, 0, 3, []int64{0}},
		{"a large page of 1024", []tableEntry{{0, 3, 1024, rw}}, impl.FaultAccess, 0, 3, []int64{0}},
		{"a table of 1024", []tableEntry{{0, 3, 1024, flagV}}, impl.FaultAccess, 0, 3, []int64{0}},
		{"a table of 1023", []tableEntry{{0, 3, 1023, flagV}}, impl.FaultHost, 1023*256 + 20, 4, []int64{0}},
		{"a page of 1024", []tableEntry{{0, 3, 1, flagV}, {1, 5, 1024, rw}}, impl.FaultAccess, 0, 6, []int64{0, 1}},
		{"a page of 1024 that is not let", []tableEntry{{0, 3, 1, flagV}, {1, 5, 1024, flagV | flagX}}, impl.FaultPage, 0, 6, []int64{0, 1}},
		{"the greatest frame", []tableEntry{{0, 3, 1, flagV}, {1, 5, 1<<24 - 1, rw}}, impl.FaultAccess, 0, 6, []int64{0, 1}},
		{"a second entry that is no page", []tableEntry{{0, 3, 1, flagV}, {1, 5, 2, flagV}}, impl.FaultPage, 0, 6, []int64{0, 1}},
	}
	for _, f := range faults {
		mem := smallHost(f.entries...)
		want := impl.TwoWalked{Fault: f.fault, Gpa: f.gpa, Steps: f.steps, Mem: mem}
		for _, n := range f.looked {
			want.Mem = withEntries(want.Mem, tableEntry{1, n, 4 + n, rw | flagA})
		}
		checkTwo(t, f.what, impl.WalkTwo(mem, 0, 0, vaOf(3, 5, 9), impl.AccRead, false), want)
	}
}

func TestWalkTwoOfGuestFrame1023(t *testing.T) {
	rw := int64(flagV | flagR | flagW)
	mem := withEntries(smallHost(tableEntry{0, 3, 1, flagV}, tableEntry{1, 5, 1023, rw}), tableEntry{0, 31, 2, flagV}, tableEntry{2, 31, 7, rw})
	two := impl.WalkTwo(mem, 0, 0, vaOf(3, 5, 9), impl.AccWrite, false)
	checkTwo(t, "a page of 1023 that is mapped", two, impl.TwoWalked{
		Gpa: 1023*256 + 9, Hpa: 7*256 + 9, Steps: 10,
		Mem: withEntries(mem, tableEntry{1, 0, 4, rw | flagA}, tableEntry{1, 1, 5, rw | flagA | flagD}, tableEntry{2, 31, 7, rw | flagA | flagD}, tableEntry{5, 5, 1023, rw | flagA | flagD})})
}

func TestWalkTwoOfLargePages(t *testing.T) {
	rw := int64(flagV | flagR | flagW)
	mem := withEntries(emptyMemory(64), tableEntry{0, 0, 32, rw}, tableEntry{40, 3, 0, rw | flagX})
	two := impl.WalkTwo(mem, 0, 8, vaOf(3, 5, 9), impl.AccFetch, false)
	checkTwo(t, "large pages of both", two, impl.TwoWalked{
		Gpa: 5*256 + 9, Hpa: 37*256 + 9, Steps: 4,
		Mem: withEntries(mem, tableEntry{0, 0, 32, rw | flagA | flagD}, tableEntry{40, 3, 0, rw | flagX | flagA})})
}

func TestWalkTwoAsksTheHostAsNoUser(t *testing.T) {
	guest := withEntries(emptyMemory(3), tableEntry{0, 3, 1, flagV}, tableEntry{1, 5, 2, flagV | flagR | flagX | flagU})
	mem := layGuest(emptyMemory(8), guest, []int{4, 5, 6}, 1, readWrite)
	checkNumber(t, "a user of the guest", impl.WalkTwo(mem, 0, 0, vaOf(3, 5, 9), impl.AccFetch, true).Hpa, 6*256+9)
	checkNumber(t, "a kernel of the guest", impl.WalkTwo(mem, 0, 0, vaOf(3, 5, 9), impl.AccFetch, false).Fault, impl.FaultPage)
	users := layGuest(emptyMemory(8), guest, []int{4, 5, 6}, 1, func(int) int64 { return flagV | flagR | flagW | flagU })
	checkNumber(t, "a host's page with U", impl.WalkTwo(users, 0, 0, vaOf(3, 5, 9), impl.AccFetch, true).Hpa, 6*256+9)
}

func TestWalkTwoWhereTheHostsTableIsTheGuests(t *testing.T) {
	rw := int64(flagV | flagR | flagW)
	mem := withEntries(emptyMemory(4), tableEntry{0, 0, 1, flagV}, tableEntry{1, 0, 0, rw}, tableEntry{1, 1, 1, rw}, tableEntry{1, 2, 3, rw})
	for acc := int64(1); acc <= 3; acc++ {
		for va := range int64(4) {
			checkTwo(t, fmt.Sprintf("page %d, access %d", va, acc), impl.WalkTwo(mem, 0, 0, va*256, acc, false), plainTwo(mem, 0, 0, va*256, acc, false))
		}
	}
	two := impl.WalkTwo(mem, 0, 0, 256, impl.AccWrite, false)
	checkNumber(t, "the entry that both use", int64(binary.LittleEndian.Uint32([]byte(two.Mem)[260:])), 1<<8|rw|flagA|flagD)
}

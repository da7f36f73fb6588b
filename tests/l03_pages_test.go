package tests

import (
	"encoding/binary"
	"fmt"
	"math"
	"math/rand"
	"reflect"
	"slices"
	"strings"
	"testing"

	"loop.example/g00038/impl"
)

const (
	flagV = impl.PteV
	flagR = impl.PteR
	flagW = impl.PteW
	flagX = impl.PteX
	flagU = impl.PteU
	flagA = impl.PteA
	flagD = impl.PteD
	flagG = impl.PteG
)

// emptyMemory is that many frames of bytes 0.
func emptyMemory(frames int) string {
	return strings.Repeat("\x00", frames*256)
}

// filledMemory has in each frame another byte than 0, so that what is changed shows.
func filledMemory(frames int) string {
	text := ""
	for n := range frames {
		text += strings.Repeat(string([]byte{byte(2 * (n + 8))}), 256)
	}
	return text
}

// tableEntry is an entry that stands in a table.
type tableEntry struct {
	table, index, frame, flags int64
}

// withEntries puts entries into a memory by another way than the program's own.
func withEntries(mem string, entries ...tableEntry) string {
	bytes := []byte(mem)
	for _, e := range entries {
		binary.LittleEndian.PutUint32(bytes[e.table*256+4*e.index:], uint32(e.frame*256+e.flags))
	}
	return string(bytes)
}

func readEntry(mem string, table int64, index int64) int64 {
	return int64(binary.LittleEndian.Uint32([]byte(mem)[table*256+4*index:]))
}

func vaOf(first int64, second int64, place int64) int64 {
	return first*8192 + second*256 + place
}

// plainWalk is what chapter 4 says of Walk, said once more, without flags being put.
func plainWalk(mem string, root int64, va int64, acc int64, user bool) (fault int64, pa int64, at int64, large bool, reads []int64) {
	frames := int64(len(mem) / 256)
	if root >= frames {
		return impl.FaultAccess, 0, 0, false, nil
	}
	reads = []int64{root}
	first, second := va/8192, va/256%32
	at = root*256 + 4*first
	entry := readEntry(mem, root, first)
	large = true
	if entry%2 == 1 && entry/2%8 == 0 {
		table := entry / 256
		if table >= frames {
			return impl.FaultAccess, 0, 0, false, reads
		}
		reads = append(reads, table)
		at = table*256 + 4*second
		entry = readEntry(mem, table, second)
		large = false
	}
	bad := entry&flagV == 0 || entry&(flagR|flagW|flagX) == 0
	bad = bad || large && entry/256%32 != 0
	bad = bad || acc == impl.AccRead && entry&flagR == 0
	bad = bad || acc == impl.AccWrite && entry&flagW == 0
	bad = bad || acc == impl.AccFetch && entry&flagX == 0
	bad = bad || user && entry&flagU == 0
	bad = bad || !user && acc == impl.AccFetch && entry&flagU != 0
	if bad {
		return impl.FaultPage, 0, 0, false, reads
	}
	page := entry / 256
	if large {
		page += second
	}
	if page >= frames {
		return impl.FaultAccess, 0, 0, false, reads
	}
	return 0, page*256 + va%256, at, large, reads
}

// plainWalked is the whole answer of Walk, made of plainWalk.
func plainWalked(mem string, root int64, va int64, acc int64, user bool) impl.Walked {
	fault, pa, at, large, reads := plainWalk(mem, root, va, acc, user)
	if fault != 0 {
		return impl.Walked{Fault: fault, Reads: reads, Mem: mem}
	}
	bytes := []byte(mem)
	bytes[at] |= flagA
	if acc == impl.AccWrite {
		bytes[at] |= flagD
	}
	entry := int64(binary.LittleEndian.Uint32(bytes[at:]))
	return impl.Walked{Pa: pa, Entry: entry, Large: large, Reads: reads, Mem: string(bytes)}
}

func sameWalked(a impl.Walked, b impl.Walked) bool {
	same := slices.Equal(a.Reads, b.Reads)
	a.Reads, b.Reads = nil, nil
	return same && reflect.DeepEqual(a, b)
}

func walkedText(w impl.Walked) string {
	return fmt.Sprintf("Fault %d Pa %d Entry %#x Large %v Reads %v, Mem of %d bytes", w.Fault, w.Pa, w.Entry, w.Large, w.Reads, len(w.Mem))
}

func checkWalked(t *testing.T, what string, got impl.Walked, want impl.Walked) {
	t.Helper()
	if !sameWalked(got, want) {
		t.Errorf("%s: got %s, want %s", what, walkedText(got), walkedText(want))
	}
}

// randomTables is a memory whose frame 0 is a root and whose next ones are second tables, with entries of all kinds.
func randomTables(rng *rand.Rand, frames int) string {
	bytes := []byte(filledMemory(frames))
	tables := min(frames, 4)
	for table := range tables {
		for index := range 32 {
			flags := rng.Intn(256)
			frame := rng.Intn(frames + 2)
			switch rng.Intn(4) {
			case 0:
				flags = flagV
				frame = rng.Intn(tables + 1)
			case 1:
				flags |= flagV | flagR
				frame = frame / 32 * 32
			case 2:
				frame = rng.Intn(1 << 24)
			}
			binary.LittleEndian.PutUint32(bytes[table*256+4*index:], uint32(frame*256+flags))
		}
	}
	return string(bytes)
}

// eachWalk hands many memories, addresses and kinds of access to see.
func eachWalk(seed int64, see func(mem string, root int64, va int64, acc int64, user bool)) {
	rng := rand.New(rand.NewSource(seed))
	for _, frames := range []int{1, 2, 5, 40, 256} {
		for range 4 {
			mem := randomTables(rng, frames)
			for range 250 {
				root := int64(rng.Intn(min(frames, 4) + 1))
				see(mem, root%256, rng.Int63n(impl.MaxVa), 1+rng.Int63n(3), rng.Intn(2) == 0)
			}
		}
	}
}

func TestMemFault(t *testing.T) {
	for _, frames := range []int{1, 2, 255, 256} {
		checkNumber(t, fmt.Sprintf("MemFault of %d frames", frames), impl.MemFault(emptyMemory(frames)), impl.OK)
	}
	for _, size := range []int{0, 1, 255, 257, 511, 513, 65535, 65537, 256 * 257} {
		checkNumber(t, fmt.Sprintf("MemFault of %d bytes", size), impl.MemFault(strings.Repeat("x", size)), impl.ErrForm)
	}
}

func TestWalkRefusesWrongInputs(t *testing.T) {
	mem := withEntries(emptyMemory(2), tableEntry{0, 0, 0, flagV | flagR | flagW | flagX}, tableEntry{0, 31, 0, flagV | flagR})
	if impl.Walk(mem, 0, 0, impl.AccRead, false).Mem == "" {
		t.Fatal("the walk that the wrong ones are beside is refused")
	}
	wrong := []struct {
		what string
		mem  string
		root int64
		va   int64
		acc  int64
	}{
		{"no memory", "", 0, 0, 1},
		{"too much memory", emptyMemory(257), 0, 0, 1},
		{"a broken frame", mem[:511], 0, 0, 1},
		{"root -1", mem, -1, 0, 1},
		{"root 256", mem, 256, 0, 1},
		{"root 256 of as many frames", emptyMemory(256), 256, 0, 1},
		{"the least root", mem, math.MinInt64, 0, 1},
		{"address -1", mem, 0, -1, 1},
		{"address MaxVa", mem, 0, impl.MaxVa, 1},
		{"the greatest address", mem, 0, math.MaxInt64, 1},
		{"the least address", mem, 0, math.MinInt64, 1},
		{"access 0", mem, 0, 0, 0},
		{"access 4", mem, 0, 0, 4},
		{"access -1", mem, 0, 0, -1},
		{"the greatest access", mem, 0, 0, math.MaxInt64},
	}
	for _, w := range wrong {
		checkWalked(t, w.what, impl.Walk(w.mem, w.root, w.va, w.acc, false), impl.Walked{})
	}
}

func TestWalkAtTheEdgesOfItsInputs(t *testing.T) {
	one := withEntries(emptyMemory(1), tableEntry{0, 0, 0, flagV | flagR})
	checkWalked(t, "memory of one frame", impl.Walk(one, 0, 4, 1, false), impl.Walked{
		Pa: 4, Entry: flagV | flagR | flagA, Large: true, Reads: []int64{0},
		Mem: withEntries(one, tableEntry{0, 0, 0, flagV | flagR | flagA})})
	full := withEntries(emptyMemory(256), tableEntry{255, 31, 224, flagV | flagW}, tableEntry{255, 0, 254, flagV}, tableEntry{254, 0, 255, flagV | flagW | flagG})
	checkWalked(t, "the last address, the last frame", impl.Walk(full, 255, impl.MaxVa-1, 2, false), impl.Walked{
		Pa: 65535, Entry: 224<<8 | flagV | flagW | flagA | flagD, Large: true, Reads: []int64{255},
		Mem: withEntries(full, tableEntry{255, 31, 224, flagV | flagW | flagA | flagD})})
	checkWalked(t, "address 0", impl.Walk(full, 255, 0, 2, false), impl.Walked{
		Pa: 65280, Entry: 255<<8 | flagV | flagW | flagA | flagD | flagG, Reads: []int64{255, 254},
		Mem: withEntries(full, tableEntry{254, 0, 255, flagV | flagW | flagA | flagD | flagG})})
	checkWalked(t, "root 255 that is not in memory", impl.Walk(one, 255, 0, 1, false), impl.Walked{Fault: impl.FaultAccess, Mem: one})
	checkWalked(t, "root 1 of one frame", impl.Walk(one, 1, 0, 1, false), impl.Walked{Fault: impl.FaultAccess, Mem: one})
}

func TestWalkFaults(t *testing.T) {
	all := int64(flagV | flagR | flagW | flagX)
	base := withEntries(filledMemory(64), tableEntry{1, 3, 2, flagV})
	faults := []struct {
		what  string
		entry tableEntry
		fault int64
		reads []int64
	}{
		{"a first entry without V", tableEntry{1, 3, 32, all &^ flagV}, impl.FaultPage, []int64{1}},
		{"a first entry of 0", tableEntry{1, 3, 0, 0}, impl.FaultPage, []int64{1}},
		{"a large page at frame 1", tableEntry{1, 3, 1, all}, impl.FaultPage, []int64{1}},
		{"a large page at frame 16", tableEntry{1, 3, 16, all}, impl.FaultPage, []int64{1}},
		{"a large page at frame 33", tableEntry{1, 3, 33, all}, impl.FaultPage, []int64{1}},
		{"a large page that is not in memory", tableEntry{1, 3, 64, all}, impl.FaultAccess, []int64{1}},
		{"a large page that is not in memory and not aligned", tableEntry{1, 3, 65, all}, impl.FaultPage, []int64{1}},
		{"a large page that is not in memory and not let", tableEntry{1, 3, 64, flagV | flagX}, impl.FaultPage, []int64{1}},
		{"a second table that is not in memory", tableEntry{1, 3, 64, flagV}, impl.FaultAccess, []int64{1}},
		{"a second table that is far from memory", tableEntry{1, 3, 1<<24 - 1, flagV}, impl.FaultAccess, []int64{1}},
		{"a second entry without V", tableEntry{2, 5, 7, all &^ flagV}, impl.FaultPage, []int64{1, 2}},
		{"a second entry with V alone", tableEntry{2, 5, 7, flagV}, impl.FaultPage, []int64{1, 2}},
		{"a second entry with all but R, W, X", tableEntry{2, 5, 7, flagV | flagU | flagA | flagD | flagG}, impl.FaultPage, []int64{1, 2}},
		{"a second entry without V whose page is not in memory", tableEntry{2, 5, 64, all &^ flagV}, impl.FaultPage, []int64{1, 2}},
		{"a page that is not in memory", tableEntry{2, 5, 64, all}, impl.FaultAccess, []int64{1, 2}},
		{"a page that is far from memory", tableEntry{2, 5, 1<<24 - 1, all}, impl.FaultAccess, []int64{1, 2}},
	}
	for _, f := range faults {
		mem := withEntries(base, f.entry)
		want := impl.Walked{Fault: f.fault, Reads: f.reads, Mem: mem}
		checkWalked(t, f.what, impl.Walk(mem, 1, vaOf(3, 5, 17), impl.AccRead, false), want)
	}
}

func TestWalkIsLetByTheFlags(t *testing.T) {
	base := withEntries(filledMemory(64), tableEntry{1, 3, 2, flagV})
	right := map[int64]int64{impl.AccRead: flagR, impl.AccWrite: flagW, impl.AccFetch: flagX}
	for flags := range int64(256) {
		for acc := int64(1); acc <= 3; acc++ {
			for _, user := range []bool{false, true} {
				let := flags&flagV != 0 && flags&right[acc] != 0
				if user {
					let = let && flags&flagU != 0
				} else if acc == impl.AccFetch {
					let = let && flags&flagU == 0
				}
				small := impl.Walk(withEntries(base, tableEntry{2, 5, 7, flags}), 1, vaOf(3, 5, 17), acc, user)
				if (small.Fault == 0) != let {
					t.Errorf("flags %d, access %d, user %v: Fault %d", flags, acc, user, small.Fault)
				}
				if flags&(flagR|flagW|flagX) == 0 {
					continue
				}
				large := impl.Walk(withEntries(base, tableEntry{1, 3, 32, flags}), 1, vaOf(3, 5, 17), acc, user)
				if (large.Fault == 0) != let {
					t.Errorf("large, flags %d, access %d, user %v: Fault %d", flags, acc, user, large.Fault)
				}
			}
		}
	}
}

func TestWalkOfLargePages(t *testing.T) {
	mem := withEntries(filledMemory(70), tableEntry{1, 3, 32, flagV | flagR}, tableEntry{1, 4, 64, flagV | flagR})
	for second := range int64(32) {
		w := impl.Walk(mem, 1, vaOf(3, second, 255), impl.AccRead, false)
		checkNumber(t, fmt.Sprintf("Pa at second index %d", second), w.Pa, (32+second)*256+255)
		if !w.Large || !slices.Equal(w.Reads, []int64{1}) {
			t.Errorf("second index %d: Large %v, Reads %v", second, w.Large, w.Reads)
		}
		want := int64(0)
		if second >= 6 {
			want = impl.FaultAccess
		}
		checkNumber(t, fmt.Sprintf("Fault of a page partly in memory at %d", second), impl.Walk(mem, 1, vaOf(4, second, 0), impl.AccRead, false).Fault, want)
	}
}

func TestWalkOfTheSameFrameAsBothTables(t *testing.T) {
	mem := withEntries(filledMemory(4), tableEntry{1, 3, 1, flagV}, tableEntry{1, 5, 2, flagV | flagR})
	checkWalked(t, "a root that is its own second table", impl.Walk(mem, 1, vaOf(3, 5, 9), impl.AccRead, false), impl.Walked{
		Pa: 2*256 + 9, Entry: 2<<8 | flagV | flagR | flagA, Reads: []int64{1, 1},
		Mem: withEntries(mem, tableEntry{1, 5, 2, flagV | flagR | flagA})})
}

func TestWalkAgainstPlainWalk(t *testing.T) {
	good := 0
	eachWalk(31, func(mem string, root int64, va int64, acc int64, user bool) {
		got := impl.Walk(mem, root, va, acc, user)
		checkWalked(t, fmt.Sprintf("Walk of root %d, address %#x, access %d, user %v", root, va, acc, user), got, plainWalked(mem, root, va, acc, user))
		if got.Fault == 0 {
			good++
		}
	})
	if good < 100 {
		t.Errorf("no more than %d walks without fault were seen", good)
	}
}

func TestP6WalkChangesNoMoreThanFlagsOfOneEntry(t *testing.T) {
	eachWalk(32, func(mem string, root int64, va int64, acc int64, user bool) {
		w := impl.Walk(mem, root, va, acc, user)
		if len(w.Mem) != len(mem) {
			t.Fatalf("memory of %d bytes became one of %d", len(mem), len(w.Mem))
		}
		changed := []int{}
		for at := range len(mem) {
			if mem[at] != w.Mem[at] {
				changed = append(changed, at)
			}
		}
		if len(changed) > 1 || len(changed) == 1 && w.Fault != 0 {
			t.Fatalf("bytes changed at %v, fault %d", changed, w.Fault)
		}
		if len(changed) == 1 {
			was, is := mem[changed[0]], w.Mem[changed[0]]
			if changed[0]%4 != 0 || (was^is)&^(flagA|flagD) != 0 || is&was != was {
				t.Fatalf("byte %d was %#x and became %#x", changed[0], was, is)
			}
		}
	})
}

func TestP6SecondWalkFindsTheSameAndChangesNothing(t *testing.T) {
	eachWalk(33, func(mem string, root int64, va int64, acc int64, user bool) {
		first := impl.Walk(mem, root, va, acc, user)
		if first.Fault != 0 {
			checkText(t, "memory of a walk with a fault", first.Mem, mem)
			return
		}
		checkWalked(t, "the second walk", impl.Walk(first.Mem, root, va, acc, user), first)
	})
}

func TestP6FlagsThatAreThereAlready(t *testing.T) {
	base := withEntries(filledMemory(8), tableEntry{1, 3, 2, flagV})
	for _, there := range []int64{0, flagA, flagD, flagA | flagD} {
		for acc, puts := range map[int64]int64{impl.AccRead: flagA, impl.AccWrite: flagA | flagD, impl.AccFetch: flagA} {
			flags := flagV | flagR | flagW | flagX | there
			mem := withEntries(base, tableEntry{2, 5, 7, flags})
			checkWalked(t, fmt.Sprintf("access %d with flags %d there", acc, there), impl.Walk(mem, 1, vaOf(3, 5, 0), acc, false), impl.Walked{
				Pa: 7 * 256, Entry: 7<<8 | flags | puts, Reads: []int64{1, 2},
				Mem: withEntries(mem, tableEntry{2, 5, 7, flags | puts})})
		}
	}
}

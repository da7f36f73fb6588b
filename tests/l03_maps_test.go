package tests

import (
	"fmt"
	"math"
	"math/rand"
	"slices"
	"sort"
	"testing"

	"loop.example/g00038/impl"
)

func sameMapRes(a impl.MapRes, b impl.MapRes) bool {
	return a.Code == b.Code && a.At == b.At && a.Mem == b.Mem && slices.Equal(a.Free, b.Free)
}

func checkMapped(t *testing.T, what string, got impl.MapRes, want impl.MapRes) {
	t.Helper()
	if sameMapRes(got, want) {
		return
	}
	t.Errorf("%s: got Code %d At %d Free %v, Mem of %d bytes, want Code %d At %d Free %v, Mem of %d bytes", what,
		got.Code, got.At, got.Free, len(got.Mem), want.Code, want.At, want.Free, len(want.Mem))
	for at := range min(len(got.Mem), len(want.Mem)) {
		if got.Mem[at] != want.Mem[at] {
			t.Errorf("%s: byte %d is %#x, want %#x", what, at, got.Mem[at], want.Mem[at])
		}
	}
}

func checkMaps(t *testing.T, what string, got []impl.PageMap, want []impl.PageMap) {
	t.Helper()
	if !slices.Equal(got, want) {
		t.Errorf("%s: got %+v, want %+v", what, got, want)
	}
}

// randomMaps are maps that do not lie on one another, in any order.
func randomMaps(rng *rand.Rand, frames int64, firsts int) []impl.PageMap {
	var maps []impl.PageMap
	flagsOf := func() int64 {
		return rng.Int63n(256)&^(flagV|flagA|flagD) | []int64{flagR, flagW, flagX}[rng.Intn(3)]
	}
	for _, first := range rng.Perm(32)[:firsts] {
		if rng.Intn(3) == 0 {
			maps = append(maps, impl.PageMap{Va: int64(first) * 8192, Frame: rng.Int63n(32) * 32, Flags: flagsOf(), Large: true})
			continue
		}
		for _, second := range rng.Perm(32)[:1+rng.Intn(6)] {
			maps = append(maps, impl.PageMap{Va: vaOf(int64(first), int64(second), 0), Frame: rng.Int63n(2 * frames), Flags: flagsOf()})
		}
	}
	rng.Shuffle(len(maps), func(i, j int) { maps[i], maps[j] = maps[j], maps[i] })
	return maps
}

// checkMapIsFound walks to the first and the last place of a page, and looks whether it is let as its flags say.
func checkMapIsFound(t *testing.T, mem string, root int64, p impl.PageMap, acc int64, user bool) {
	t.Helper()
	pages := int64(1)
	if p.Large {
		pages = 32
	}
	let := p.Flags&[]int64{0, flagR, flagW, flagX}[acc] != 0 && (!user || p.Flags&flagU != 0) && (user || acc != 3 || p.Flags&flagU == 0)
	for page := range pages {
		w := impl.Walk(mem, root, p.Va+page*256+255, acc, user)
		switch {
		case !let:
			checkNumber(t, "Fault of what is not let", w.Fault, impl.FaultPage)
		case p.Frame+page >= int64(len(mem)/256):
			checkNumber(t, "Fault of a frame that is not in memory", w.Fault, impl.FaultAccess)
		default:
			checkNumber(t, "Fault", w.Fault, 0)
			checkNumber(t, "Pa", w.Pa, (p.Frame+page)*256+255)
			if w.Large != p.Large {
				t.Errorf("Large is %v, want %v", w.Large, p.Large)
			}
		}
	}
}

func TestP5WhatMapPagesPutsIsToldAndFound(t *testing.T) {
	rng := rand.New(rand.NewSource(51))
	for _, frames := range []int64{40, 64, 256} {
		for round := range 6 {
			maps := randomMaps(rng, frames, 1+5*round)
			root := rng.Int63n(frames)
			var free []int64
			for _, frame := range rng.Perm(int(frames)) {
				if int64(frame) != root && len(free) < 35 {
					free = append(free, int64(frame))
				}
			}
			mem := filledMemory(int(frames))
			mem = mem[:root*256] + emptyMemory(1) + mem[root*256+256:]
			r := impl.MapPages(mem, root, maps, free)
			checkNumber(t, "Code", r.Code, impl.OK)
			told := slices.Clone(maps)
			sort.Slice(told, func(i, j int) bool { return told[i].Va < told[j].Va })
			checkMaps(t, "what was put", impl.ReadMaps(r.Mem, root), told)
			for _, p := range maps {
				checkMapIsFound(t, r.Mem, root, p, 1+rng.Int63n(3), rng.Intn(2) == 0)
			}
		}
	}
}

func TestP5MapsArePutBesideWhatIsThere(t *testing.T) {
	rng := rand.New(rand.NewSource(52))
	maps := randomMaps(rng, 64, 30)
	var free []int64
	for frame := range int64(30) {
		free = append(free, 10+frame)
	}
	whole := impl.MapPages(emptyMemory(64), 3, maps, free)
	parts := impl.MapRes{Mem: emptyMemory(64), Free: free}
	for _, p := range maps {
		parts = impl.MapPages(parts.Mem, 3, []impl.PageMap{p}, parts.Free)
	}
	checkMapped(t, "one by one", parts, whole)
}

func TestMapPagesPutsEntries(t *testing.T) {
	mem := filledMemory(2) + emptyMemory(1) + filledMemory(6)
	r := impl.MapPages(mem, 2, []impl.PageMap{
		{Va: vaOf(0, 0, 0), Frame: 0, Flags: flagR},
		{Va: vaOf(31, 31, 0), Frame: 1023, Flags: flagR | flagW | flagX | flagU | flagG},
		{Va: vaOf(31, 30, 0), Frame: 2, Flags: flagW},
		{Va: vaOf(30, 0, 0), Frame: 992, Flags: flagX | flagG, Large: true},
		{Va: vaOf(7, 0, 0), Frame: 0, Flags: flagX, Large: true},
	}, []int64{8, 5, 4})
	want := mem[:5*256] + emptyMemory(1) + mem[6*256:8*256] + emptyMemory(1)
	want = withEntries(want,
		tableEntry{2, 0, 8, flagV}, tableEntry{8, 0, 0, flagV | flagR},
		tableEntry{2, 31, 5, flagV}, tableEntry{5, 31, 1023, flagV | flagR | flagW | flagX | flagU | flagG}, tableEntry{5, 30, 2, flagV | flagW},
		tableEntry{2, 30, 992, flagV | flagX | flagG}, tableEntry{2, 7, 0, flagV | flagX})
	checkMapped(t, "five maps", r, impl.MapRes{Mem: want, Free: []int64{4}})
}

func TestMapPagesOfNothing(t *testing.T) {
	mem := filledMemory(3)
	checkMapped(t, "no maps", impl.MapPages(mem, 2, nil, []int64{1, 0, 1}), impl.MapRes{Mem: mem, Free: []int64{1, 0, 1}})
	checkMapped(t, "no maps, nothing free", impl.MapPages(mem, 0, nil, nil), impl.MapRes{Mem: mem})
	full := emptyMemory(256)
	checkMapped(t, "the greatest memory", impl.MapPages(full, 255, nil, []int64{255}), impl.MapRes{Mem: full, Free: []int64{255}})
}

func TestMapPagesTakesNoMoreOfFreeThanItNeeds(t *testing.T) {
	var maps []impl.PageMap
	for page := range int64(64) {
		maps = append(maps, impl.PageMap{Va: page * 256, Frame: page, Flags: flagR})
	}
	r := impl.MapPages(emptyMemory(4), 0, maps, []int64{3, 1})
	checkNumber(t, "Code of two tables out of two", r.Code, impl.OK)
	checkNumber(t, "how many are left", int64(len(r.Free)), 0)
	checkNumber(t, "the first table", readEntry(r.Mem, 0, 0), 3<<8|flagV)
	checkNumber(t, "the second table", readEntry(r.Mem, 0, 1), 1<<8|flagV)
	maps = append(maps, impl.PageMap{Va: 64 * 256, Flags: flagR})
	checkMapped(t, "a third table", impl.MapPages(emptyMemory(4), 0, maps, []int64{3, 1}), impl.MapRes{Code: impl.ErrCount, At: 64})
	maps[64] = impl.PageMap{Va: 64 * 256, Flags: flagR, Large: true}
	checkNumber(t, "a large page needs no table", impl.MapPages(emptyMemory(4), 0, maps, []int64{3, 1}).Code, impl.OK)
}

func TestMapPagesRefusesWrongMaps(t *testing.T) {
	good := impl.PageMap{Va: 256, Frame: 1, Flags: flagR}
	wrong := []impl.PageMap{
		{Va: -256, Frame: 1, Flags: flagR},
		{Va: 1, Frame: 1, Flags: flagR},
		{Va: 511, Frame: 1, Flags: flagR},
		{Va: impl.MaxVa, Frame: 1, Flags: flagR},
		{Va: math.MinInt64, Frame: 1, Flags: flagR},
		{Va: 512, Frame: -1, Flags: flagR},
		{Va: 512, Frame: 1024, Flags: flagR},
		{Va: 512, Frame: 1, Flags: 0},
		{Va: 512, Frame: 1, Flags: flagU | flagG},
		{Va: 512, Frame: 1, Flags: flagR | flagV},
		{Va: 512, Frame: 1, Flags: flagR | flagA},
		{Va: 512, Frame: 1, Flags: flagR | flagD},
		{Va: 512, Frame: 1, Flags: flagR | 256},
		{Va: 512, Frame: 1, Flags: -1},
		{Va: 8192 + 256, Frame: 32, Flags: flagR, Large: true},
		{Va: 8192 + 4096, Frame: 32, Flags: flagR, Large: true},
		{Va: impl.MaxVa, Frame: 32, Flags: flagR, Large: true},
		{Va: -8192, Frame: 32, Flags: flagR, Large: true},
		{Va: 8192, Frame: 33, Flags: flagR, Large: true},
		{Va: 8192, Frame: 16, Flags: flagR, Large: true},
		{Va: 8192, Frame: 1024, Flags: flagR, Large: true},
		{Va: 8192, Frame: -32, Flags: flagR, Large: true},
		{Va: 8192, Frame: 32, Flags: flagU, Large: true},
	}
	for _, p := range wrong {
		checkMapped(t, fmt.Sprintf("%+v", p), impl.MapPages(emptyMemory(4), 0, []impl.PageMap{good, p}, []int64{1, 2}), impl.MapRes{Code: impl.ErrForm, At: 1})
	}
}

func TestMapPagesRefusesWrongInputs(t *testing.T) {
	mem := emptyMemory(4)
	maps := []impl.PageMap{{Va: 256, Frame: 1, Flags: flagR}}
	long := make([]impl.PageMap, 1001)
	for at := range long {
		long[at] = impl.PageMap{Va: int64(at) * 256, Frame: 1, Flags: flagR}
	}
	wrong := []struct {
		what string
		mem  string
		root int64
		maps []impl.PageMap
		free []int64
		code int64
	}{
		{"no memory", "", 0, maps, nil, impl.ErrForm},
		{"a broken frame", mem[:1023], 0, maps, []int64{1}, impl.ErrForm},
		{"too long a memory", emptyMemory(257), 0, maps, []int64{1}, impl.ErrSize},
		{"too long a memory, and a wrong root", emptyMemory(257), -1, maps, []int64{1}, impl.ErrSize},
		{"too many maps", mem, 0, long, []int64{1}, impl.ErrSize},
		{"too many maps, and no memory", "", 0, long, []int64{1}, impl.ErrSize},
		{"too many free ones", mem, 0, maps, make([]int64, 1001), impl.ErrSize},
		{"too many free ones, and no memory", "", 0, maps, make([]int64, 1001), impl.ErrSize},
		{"root -1", mem, -1, maps, []int64{1}, impl.ErrForm},
		{"root 4 of four frames", mem, 4, maps, []int64{1}, impl.ErrForm},
		{"root 256", mem, 256, maps, []int64{1}, impl.ErrForm},
		{"a free one of -1", mem, 0, maps, []int64{1, -1}, impl.ErrForm},
		{"a free one that is not in memory", mem, 0, maps, []int64{1, 2, 4}, impl.ErrForm},
		{"a wrong free one, ahead of the maps", mem, 0, []impl.PageMap{maps[0], {Va: 1}}, []int64{4}, impl.ErrForm},
	}
	for _, w := range wrong {
		checkMapped(t, w.what, impl.MapPages(w.mem, w.root, w.maps, w.free), impl.MapRes{Code: w.code})
	}
	tables := make([]int64, 1000)
	for at := range tables {
		tables[at] = int64(at%255) + 1
	}
	checkNumber(t, "a thousand maps and a thousand free ones", impl.MapPages(emptyMemory(256), 0, long[:1000], tables).Code, impl.OK)
}

func TestMapPagesConflicts(t *testing.T) {
	base := withEntries(emptyMemory(8),
		tableEntry{0, 3, 1, flagV}, tableEntry{1, 5, 2, flagV | flagR}, tableEntry{1, 6, 2, flagV}, tableEntry{1, 7, 9, flagR | flagW},
		tableEntry{0, 4, 32, flagV | flagX}, tableEntry{0, 5, 8, flagV}, tableEntry{0, 6, 1, flagR}, tableEntry{0, 7, 33, flagV | flagW},
		tableEntry{0, 8, 2, flagV})
	small := func(first int64, second int64) impl.PageMap {
		return impl.PageMap{Va: vaOf(first, second, 0), Frame: 6, Flags: flagR}
	}
	large := func(first int64) impl.PageMap {
		return impl.PageMap{Va: vaOf(first, 0, 0), Frame: 64, Flags: flagR, Large: true}
	}
	conflicts := map[string]impl.PageMap{
		"a page over a page":                           small(3, 5),
		"a page over an entry with V alone":            small(3, 6),
		"a page over a large one":                      small(4, 0),
		"a page over a large one that is no multiple":  small(7, 3),
		"a page in a table that is not in memory":      small(5, 0),
		"a large page over a table":                    large(3),
		"a large page over an empty table":             large(8),
		"a large page over a large one":                large(4),
		"a large page over a table that is not there":  large(5),
		"a large page over one that is not a multiple": large(7),
		"a page that was put by the map ahead (page)":  small(9, 1),
		"a page that was put by the map ahead (large)": small(10, 1),
		"a large page over what was put ahead (page)":  large(9),
		"a large page over what was put ahead (large)": large(10),
	}
	ahead := []impl.PageMap{small(9, 1), large(10)}
	for what, p := range conflicts {
		checkMapped(t, what, impl.MapPages(base, 0, append(slices.Clone(ahead), p), []int64{7}), impl.MapRes{Code: impl.ErrConflict, At: 2})
	}
	lets := map[string]impl.PageMap{
		"a page over an entry without V":  small(3, 7),
		"a page where V is not in a root": small(6, 0),
		"a large page where V is not":     large(6),
		"a page in a table that is there": small(8, 0),
	}
	for what, p := range lets {
		checkNumber(t, what, impl.MapPages(base, 0, append(slices.Clone(ahead), p), []int64{7, 6}).Code, impl.OK)
	}
	r := impl.MapPages(base, 0, []impl.PageMap{small(3, 7), large(6)}, nil)
	checkMapped(t, "what stood there without V", r, impl.MapRes{Mem: withEntries(base, tableEntry{1, 7, 6, flagV | flagR}, tableEntry{0, 6, 64, flagV | flagR})})
	made := impl.MapPages(base, 0, []impl.PageMap{small(6, 1)}, []int64{7})
	checkNumber(t, "the entry of a table that was made", readEntry(made.Mem, 0, 6), 7<<8|flagV)
}

func TestMapPagesTellsTheFirstFault(t *testing.T) {
	conflict := impl.PageMap{Va: 8192, Frame: 1, Flags: flagR}
	form := impl.PageMap{Va: 8192 + 1, Frame: 1, Flags: flagR}
	count := impl.PageMap{Va: 0, Frame: 1, Flags: flagR}
	both := impl.PageMap{Va: 8192, Frame: 1, Flags: 0}
	mem := withEntries(emptyMemory(2), tableEntry{0, 1, 32, flagV | flagR})
	orders := []struct {
		what string
		maps []impl.PageMap
		code int64
		at   int64
	}{
		{"a conflict ahead of a wrong one", []impl.PageMap{conflict, form}, impl.ErrConflict, 0},
		{"a wrong one ahead of a conflict", []impl.PageMap{form, conflict}, impl.ErrForm, 0},
		{"no table ahead of a wrong one", []impl.PageMap{count, form, conflict}, impl.ErrCount, 0},
		{"a wrong one over what is mapped", []impl.PageMap{both}, impl.ErrForm, 0},
		{"a wrong one for which no table is left", []impl.PageMap{{Va: 0, Frame: 1024, Flags: flagR}}, impl.ErrForm, 0},
	}
	for _, o := range orders {
		checkMapped(t, o.what, impl.MapPages(mem, 0, o.maps, nil), impl.MapRes{Code: o.code, At: o.at})
	}
}

func TestMapPagesLeavesItsArguments(t *testing.T) {
	maps := []impl.PageMap{{Va: 0, Frame: 1, Flags: flagR}}
	free := []int64{1, 2, 3}
	r := impl.MapPages(emptyMemory(4), 0, maps, free)
	r.Free[0] = 77
	if !slices.Equal(free, []int64{1, 2, 3}) || maps[0] != (impl.PageMap{Va: 0, Frame: 1, Flags: flagR}) {
		t.Errorf("the arguments became %v, %v", maps, free)
	}
}

func TestReadMaps(t *testing.T) {
	mem := withEntries(emptyMemory(4),
		tableEntry{3, 0, 1, flagV}, tableEntry{3, 2, 4, flagV}, tableEntry{3, 3, 2, flagV | flagU | flagA | flagD | flagG},
		tableEntry{3, 5, 64, flagV | flagR | flagA | flagD | flagG}, tableEntry{3, 6, 64, flagR | flagW}, tableEntry{3, 7, 65, flagV | flagW | flagU},
		tableEntry{3, 31, 1<<24 - 1, flagV | flagX},
		tableEntry{1, 0, 9, flagV | flagR | flagA}, tableEntry{1, 1, 9, flagR}, tableEntry{1, 31, 1<<24 - 1, 255}, tableEntry{2, 4, 3, flagV | flagG})
	checkMaps(t, "all that is mapped", impl.ReadMaps(mem, 3), []impl.PageMap{
		{Va: 0, Frame: 9, Flags: flagR},
		{Va: 31 * 256, Frame: 1<<24 - 1, Flags: flagR | flagW | flagX | flagU | flagG},
		{Va: vaOf(3, 4, 0), Frame: 3, Flags: flagG},
		{Va: vaOf(5, 0, 0), Frame: 64, Flags: flagR | flagG, Large: true},
		{Va: vaOf(7, 0, 0), Frame: 65, Flags: flagW | flagU, Large: true},
		{Va: vaOf(31, 0, 0), Frame: 1<<24 - 1, Flags: flagX, Large: true},
	})
	checkNumber(t, "how many an empty table maps", int64(len(impl.ReadMaps(mem, 0))), 0)
}

func TestReadMapsOfAFullTable(t *testing.T) {
	mem := emptyMemory(33)
	for first := range int64(32) {
		mem = withEntries(mem, tableEntry{0, first, first + 1, flagV})
		for second := range int64(32) {
			mem = withEntries(mem, tableEntry{first + 1, second, first*32 + second, flagV | flagR})
		}
	}
	maps := impl.ReadMaps(mem, 0)
	checkNumber(t, "how many are mapped", int64(len(maps)), 1024)
	for page, p := range maps {
		if p != (impl.PageMap{Va: int64(page) * 256, Frame: int64(page), Flags: flagR}) {
			t.Errorf("page %d is told as %+v", page, p)
		}
	}
}

func TestReadMapsRefusesWrongInputs(t *testing.T) {
	mem := withEntries(emptyMemory(2), tableEntry{0, 0, 1, flagV | flagR})
	if len(impl.ReadMaps(mem, 0)) != 1 {
		t.Fatal("the table that the wrong ones are beside is refused")
	}
	checkNumber(t, "no memory", int64(len(impl.ReadMaps("", 0))), 0)
	checkNumber(t, "a broken frame", int64(len(impl.ReadMaps(mem+"x", 0))), 0)
	checkNumber(t, "too long a memory", int64(len(impl.ReadMaps(mem+emptyMemory(255), 0))), 0)
	for _, root := range []int64{-1, 2, 255, 256, math.MaxInt64, math.MinInt64} {
		checkNumber(t, fmt.Sprintf("root %d", root), int64(len(impl.ReadMaps(mem, root))), 0)
	}
}

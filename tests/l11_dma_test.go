package tests

import (
	"fmt"
	"math"
	"math/rand"
	"slices"
	"strings"
	"testing"

	"loop.example/g00038/impl"
)

const dmaFlags = flagV | flagR | flagW | flagU

// plainDma is what chapter 12 says of both calls, said once more: each byte has a place of its own, found page by page.
func plainDma(mem string, root int64, at int64, size int64, acc int64) (answer impl.Dma, places []int64) {
	right := plainMemRight(mem) && among(root, 0, 255) && among(at, 0, 262143) && among(size, 0, 65536)
	code := plainQueueCode(mem, right && at+size <= 262144)
	if code != impl.OK {
		return impl.Dma{Code: code}, nil
	}
	for va := at; va < at+size; va++ {
		if va > at && va%256 > 0 {
			places = append(places, places[len(places)-1]+1)
			continue
		}
		w := plainWalked(mem, root, va, acc, true)
		if w.Fault != 0 {
			return impl.Dma{Code: impl.ErrRight, At: va}, nil
		}
		mem = w.Mem
		places = append(places, w.Pa)
	}
	return impl.Dma{Mem: mem}, places
}

func plainDmaRead(mem string, root int64, at int64, size int64) impl.Dma {
	answer, places := plainDma(mem, root, at, size, impl.AccRead)
	var data []byte
	for _, place := range places {
		data = append(data, answer.Mem[place])
	}
	answer.Data = string(data)
	return answer
}

func plainDmaWrite(mem string, root int64, at int64, data string) impl.Dma {
	if len(data) > 65536 {
		return impl.Dma{Code: impl.ErrSize}
	}
	answer, places := plainDma(mem, root, at, int64(len(data)), impl.AccWrite)
	if answer.Code == impl.OK {
		answer.Mem = plainPut(answer.Mem, places, data)
	}
	return answer
}

func checkDma(t *testing.T, what string, got impl.Dma, want impl.Dma) {
	t.Helper()
	checkMemory(t, what, got.Mem, want.Mem)
	checkMemory(t, what+" (Data)", got.Data, want.Data)
	checkNumbers(t, what+": Code and At", []int64{got.Code, got.At}, []int64{want.Code, want.At})
}

func checkDmaRead(t *testing.T, what string, mem string, root int64, at int64, size int64) impl.Dma {
	t.Helper()
	got := impl.DmaRead(mem, root, at, size)
	checkDma(t, what+": DmaRead", got, plainDmaRead(mem, root, at, size))
	return got
}

func checkDmaWrite(t *testing.T, what string, mem string, root int64, at int64, data string) impl.Dma {
	t.Helper()
	got := impl.DmaWrite(mem, root, at, data)
	checkDma(t, what+": DmaWrite", got, plainDmaWrite(mem, root, at, data))
	return got
}

// The pages 64 to 67 are the frames 9, 5, 7 and 6, by the tables 1 and 2.
const dmaBase = 64 * 256

func dmaMemory() string {
	return withEntries(putText(numberedMemory(12), 256, bytes0(512)), tableEntry{1, 2, 2, flagV},
		tableEntry{2, 0, 9, dmaFlags}, tableEntry{2, 1, 5, dmaFlags}, tableEntry{2, 2, 7, dmaFlags}, tableEntry{2, 3, 6, dmaFlags})
}

// withFlags puts flags to the entries of so many pages of dmaMemory.
func withFlags(mem string, from int64, to int64, flags int64) string {
	for page := from; page <= to; page++ {
		mem = withWord(mem, 512+4*page, wordAt(mem, 512+4*page)|flags)
	}
	return mem
}

func TestDmaOfAPage(t *testing.T) {
	mem := dmaMemory()
	for page, frame := range []int64{9, 5, 7, 6} {
		for _, place := range []int64{0, 1, 100, 254, 255} {
			for _, size := range []int64{1, 2, 100, 255, 256} {
				if place+size > 256 {
					continue
				}
				at, from := dmaBase+256*int64(page)+place, 256*frame+place
				what := fmt.Sprintf("page %d, %d bytes from %d on", page, size, place)
				flags := withFlags(mem, int64(page), int64(page), flagA)
				checkDma(t, what, checkDmaRead(t, what, mem, 1, at, size), impl.Dma{Data: mem[from : from+size], Mem: flags})
				data := strings.Repeat("w", int(size))
				flags = withFlags(mem, int64(page), int64(page), flagA|flagD)
				checkDma(t, what, checkDmaWrite(t, what, mem, 1, at, data), impl.Dma{Mem: putText(flags, from, data)})
			}
		}
	}
}

func TestDmaOfSeveralPages(t *testing.T) {
	mem := dmaMemory()
	row := mem[9*256:10*256] + mem[5*256:6*256] + mem[7*256:8*256] + mem[6*256:7*256]
	data := strings.Repeat("0123456789", 103)
	for _, at := range []int64{0, 1, 200, 255, 256, 300, 511, 512, 767, 1023} {
		for _, size := range []int64{1, 2, 57, 255, 256, 257, 300, 511, 512, 513, 768, 769, 1023, 1024} {
			if at+size > 1024 {
				continue
			}
			what := fmt.Sprintf("%d bytes from %d on", size, at)
			first, last := at/256, (at+size-1)/256
			checkDma(t, what, checkDmaRead(t, what, mem, 1, dmaBase+at, size), impl.Dma{Data: row[at : at+size], Mem: withFlags(mem, first, last, flagA)})
			want := withFlags(mem, first, last, flagA|flagD)
			for n := range size {
				frame := []int64{9, 5, 7, 6}[(at+n)/256]
				want = plainPut(want, []int64{256*frame + (at+n)%256}, data[n:n+1])
			}
			checkDma(t, what, checkDmaWrite(t, what, mem, 1, dmaBase+at, data[:size]), impl.Dma{Mem: want})
		}
	}
}

func TestDmaOfNoBytes(t *testing.T) {
	for _, root := range []int64{0, 1, 11, 12, 255} {
		for _, at := range []int64{0, 1, dmaBase, dmaBase + 255, 262143} {
			what := fmt.Sprintf("root %d, at %d", root, at)
			mem := dmaMemory()
			checkDma(t, what, checkDmaRead(t, what, mem, root, at, 0), impl.Dma{Mem: mem})
			checkDma(t, what, checkDmaWrite(t, what, mem, root, at, ""), impl.Dma{Mem: mem})
		}
	}
}

func TestWhatDmaRefuses(t *testing.T) {
	refused := func(what string, mem string, root int64, at int64, size int64, code int64) {
		t.Helper()
		checkDma(t, what, checkDmaRead(t, what, mem, root, at, size), impl.Dma{Code: code})
		if among(size, 0, 65536) {
			checkDma(t, what, checkDmaWrite(t, what, mem, root, at, bytes0(int(size))), impl.Dma{Code: code})
		}
	}
	mem := dmaMemory()
	for _, size := range []int64{0, 1} {
		for what, wrong := range wrongMemories() {
			refused(what, wrong, 0, 0, size, impl.ErrForm)
		}
		for _, long := range longMemories() {
			refused("too long", long, 0, 0, size, impl.ErrSize)
			refused("too long, and all else wrong", long, -1, -1, size, impl.ErrSize)
		}
		for _, root := range []int64{-1, 256, 257, 1 << 32, math.MinInt64, math.MaxInt64} {
			refused(fmt.Sprintf("root %d", root), mem, root, dmaBase, size, impl.ErrForm)
		}
		for _, at := range []int64{-1, -256, 262144, 262145, 1 << 32, math.MinInt64, math.MaxInt64} {
			refused(fmt.Sprintf("at %d", at), mem, 1, at, size, impl.ErrForm)
		}
	}
	for _, size := range []int64{-1, 65537, 1 << 32, math.MinInt64, math.MaxInt64, math.MaxInt64 - dmaBase} {
		refused(fmt.Sprintf("size %d", size), mem, 1, dmaBase, size, impl.ErrForm)
		refused(fmt.Sprintf("size %d, from the first byte on", size), mem, 1, 0, size, impl.ErrForm)
	}
	checkDma(t, "data of more than MaxBytes", checkDmaWrite(t, "data", mem, 1, dmaBase, bytes0(65537)), impl.Dma{Code: impl.ErrSize})
	checkDma(t, "data of more than MaxBytes, and all else wrong", checkDmaWrite(t, "data", "x", -1, -1, bytes0(70000)), impl.Dma{Code: impl.ErrSize})
	// A table that is not in memory is right, and lets nothing.
	for _, root := range []int64{12, 13, 255} {
		for _, at := range []int64{0, 77, dmaBase, 262143} {
			refusedAt := impl.Dma{Code: impl.ErrRight, At: at}
			checkDma(t, "root not in memory", checkDmaRead(t, "root", mem, root, at, 1), refusedAt)
			checkDma(t, "root not in memory", checkDmaWrite(t, "root", mem, root, at, "x"), refusedAt)
		}
	}
	checkDma(t, "a table without entries", checkDmaRead(t, "no entries", emptyMemory(1), 0, 5, 9), impl.Dma{Code: impl.ErrRight, At: 5})
}

// wholeMemory maps all of its frames from each eighth of a table on, so that MaxBytes can be asked for at once.
func wholeMemory() string {
	mem := numberedMemory(256)
	for first := range int64(32) {
		mem = withEntries(mem, tableEntry{255, first, first % 8 * 32, dmaFlags})
	}
	return mem
}

func TestDmaAtItsBounds(t *testing.T) {
	mem := wholeMemory()
	flags := func(put int64) string {
		with := mem
		for first := int64(24); first < 32; first++ {
			with = withEntries(with, tableEntry{255, first, first % 8 * 32, dmaFlags | put})
		}
		return with
	}
	end := int64(262144)
	checkDma(t, "MaxBytes up to MaxVa", checkDmaRead(t, "all", mem, 255, end-65536, 65536), impl.Dma{Data: flags(flagA), Mem: flags(flagA)})
	data := strings.Repeat("0123456789abcdef", 4096)
	checkDma(t, "MaxBytes up to MaxVa", checkDmaWrite(t, "all", mem, 255, end-65536, data), impl.Dma{Mem: data})
	checkDma(t, "the last byte", checkDmaRead(t, "last", mem, 255, end-1, 1), impl.Dma{Data: mem[65535:], Mem: withEntries(mem, tableEntry{255, 31, 224, dmaFlags | flagA})})
	for _, at := range []int64{end - 65535, end - 65281, end - 256, end - 1} {
		size := end - at + 1
		what := fmt.Sprintf("%d bytes from %d on go beyond MaxVa", size, at)
		checkDma(t, what, checkDmaRead(t, what, mem, 255, at, size), impl.Dma{Code: impl.ErrForm})
		checkDma(t, what, checkDmaWrite(t, what, mem, 255, at, data[:size]), impl.Dma{Code: impl.ErrForm})
		checkNumber(t, what+", just not", checkDmaRead(t, what, mem, 255, at, size-1).Code, impl.OK)
		checkNumber(t, what+", just not", checkDmaWrite(t, what, mem, 255, at, data[:size-1]).Code, impl.OK)
	}
	for _, at := range []int64{0, 1, 255, 8192, 100000} {
		what := fmt.Sprintf("MaxBytes from %d on", at)
		checkNumber(t, what, checkDmaRead(t, what, mem, 255, at, 65536).Code, impl.OK)
		checkNumber(t, what, checkDmaWrite(t, what, mem, 255, at, data).Code, impl.OK)
	}
}

// dmaFaults are entries that let no device through, the second of whose indexes is put by the test.
func dmaFaults(acc int64) map[string]tableEntry {
	faults := map[string]tableEntry{
		"no V":             {2, 0, 6, dmaFlags &^ flagV},
		"no entry":         {2, 0, 0, 0},
		"no U":             {2, 0, 6, dmaFlags &^ flagU},
		"none of R, W, X":  {2, 0, 6, flagV | flagU | flagA | flagD},
		"X alone":          {2, 0, 6, flagV | flagU | flagX},
		"not in memory":    {2, 0, 12, dmaFlags},
		"far from memory":  {2, 0, 1<<24 - 1, dmaFlags},
		"a table's second": {2, 0, 2, flagV},
	}
	if acc == impl.AccRead {
		faults["W alone"] = tableEntry{2, 0, 6, flagV | flagU | flagW | flagX}
	} else {
		faults["R alone"] = tableEntry{2, 0, 6, flagV | flagU | flagR | flagX}
	}
	return faults
}

func TestPagesThatAreNotLet(t *testing.T) {
	data := strings.Repeat("q", 1024)
	for _, acc := range []int64{impl.AccRead, impl.AccWrite} {
		for name, entry := range dmaFaults(acc) {
			for page := range int64(4) {
				entry.index = page
				mem := withEntries(dmaMemory(), entry)
				for _, place := range []int64{0, 1, 255} {
					for _, size := range []int64{1024 - place, 768, 513 - place, 257, 256, 1} {
						first, last := place/256, (place+size-1)/256
						what := fmt.Sprintf("%s in page %d, %d bytes from %d on", name, page, size, place)
						want := impl.Dma{Code: impl.ErrRight, At: dmaBase + max(256*page, place)}
						var got impl.Dma
						if acc == impl.AccRead {
							got = checkDmaRead(t, what, mem, 1, dmaBase+place, size)
						} else {
							got = checkDmaWrite(t, what, mem, 1, dmaBase+place, data[:size])
						}
						if among(page, first, last) {
							checkDma(t, what, got, want)
						} else {
							checkNumber(t, what, got.Code, impl.OK)
						}
					}
				}
			}
		}
	}
	// Of two pages with a fault the first one is told.
	two := withEntries(dmaMemory(), tableEntry{2, 3, 0, 0}, tableEntry{2, 1, 12, dmaFlags})
	checkDma(t, "two faults", checkDmaRead(t, "two", two, 1, dmaBase+9, 1000), impl.Dma{Code: impl.ErrRight, At: dmaBase + 256})
}

func TestTablesThatAreNotLet(t *testing.T) {
	ahead := int64(dmaBase - 256)
	for what, entry := range map[string]tableEntry{
		"no entry":                 {1, 1, 0, 0},
		"a table not in memory":    {1, 1, 12, flagV},
		"a table far from memory":  {1, 1, 1<<24 - 1, flagV},
		"a large page at 1":        {1, 1, 1, dmaFlags},
		"a large page of no users": {1, 1, 0, dmaFlags &^ flagU},
		"a large page behind":      {1, 1, 32, dmaFlags},
		"a large page, in part":    {1, 1, 0, dmaFlags}, // its page 31 is no frame of memory
	} {
		mem := withEntries(dmaMemory(), entry)
		for _, at := range []int64{ahead, ahead + 255} {
			checkDma(t, what, checkDmaRead(t, what, mem, 1, at, 300), impl.Dma{Code: impl.ErrRight, At: at})
			checkDma(t, what, checkDmaWrite(t, what, mem, 1, at, bytes0(300)), impl.Dma{Code: impl.ErrRight, At: at})
		}
	}
	// Behind the last page of a table the next one is asked.
	for what, entry := range map[string]tableEntry{"nothing": {1, 3, 0, 0}, "no table": {1, 3, 99, flagV}} {
		mem := withEntries(dmaMemory(), tableEntry{2, 31, 8, dmaFlags}, entry)
		checkDma(t, what, checkDmaRead(t, what, mem, 1, dmaBase+8192-3, 4), impl.Dma{Code: impl.ErrRight, At: dmaBase + 8192})
	}
}

func TestDmaOfLargePages(t *testing.T) {
	mem := withEntries(numberedMemory(100), tableEntry{0, 3, 32, dmaFlags}, tableEntry{0, 4, 64, dmaFlags}, tableEntry{0, 5, 96, dmaFlags})
	base := int64(3 * 8192)
	got := checkDmaRead(t, "large", mem, 0, base+100, 16384)
	want := withEntries(mem, tableEntry{0, 3, 32, dmaFlags | flagA}, tableEntry{0, 4, 64, dmaFlags | flagA}, tableEntry{0, 5, 96, dmaFlags | flagA})
	checkDma(t, "large", got, impl.Dma{Data: mem[8192+100 : 8192+16384+100], Mem: want})
	data := strings.Repeat("large", 2000)
	written := withEntries(mem, tableEntry{0, 3, 32, dmaFlags | flagA | flagD}, tableEntry{0, 4, 64, dmaFlags | flagA | flagD})
	checkDma(t, "large", checkDmaWrite(t, "large", mem, 0, base+300, data), impl.Dma{Mem: putText(written, 8192+300, data)})
	// Of the last one four frames are in memory.
	checkDma(t, "up to memory's end", checkDmaRead(t, "end", mem, 0, base+16384, 1024), impl.Dma{Data: mem[96*256:], Mem: withEntries(mem, tableEntry{0, 5, 96, dmaFlags | flagA})})
	checkDma(t, "beyond memory's end", checkDmaRead(t, "end", mem, 0, base+16384, 1025), impl.Dma{Code: impl.ErrRight, At: base + 16384 + 1024})
	checkDma(t, "beyond memory's end", checkDmaWrite(t, "end", mem, 0, base+9, strings.Repeat("x", 16384+1024)), impl.Dma{Code: impl.ErrRight, At: base + 16384 + 1024})
}

func TestPagesThatAreOneFrame(t *testing.T) {
	mem := withEntries(dmaMemory(), tableEntry{2, 1, 9, dmaFlags}, tableEntry{2, 2, 9, dmaFlags})
	page := mem[9*256 : 10*256]
	got := checkDmaRead(t, "one frame", mem, 1, dmaBase+200, 400)
	checkDma(t, "one frame", got, impl.Dma{Data: (page + page + page)[200:600], Mem: withFlags(mem, 0, 2, flagA)})
	data := strings.Repeat("a", 256) + strings.Repeat("b", 256) + strings.Repeat("c", 100)
	got = checkDmaWrite(t, "one frame", mem, 1, dmaBase, data)
	want := putText(withFlags(mem, 0, 2, flagA|flagD), 9*256, strings.Repeat("c", 100)+strings.Repeat("b", 156))
	checkDma(t, "the last one is written last", got, impl.Dma{Mem: want})
}

// All pages are looked up ahead of what is read or written, so that a table may be among them.
func TestPagesThatAreTheTablesOwn(t *testing.T) {
	mem := withEntries(dmaMemory(), tableEntry{2, 0, 2, dmaFlags}, tableEntry{2, 2, 1, dmaFlags})
	got := checkDmaRead(t, "tables", mem, 1, dmaBase, 768)
	flags := withFlags(mem, 0, 2, flagA)
	checkDma(t, "tables", got, impl.Dma{Data: flags[512:768] + flags[5*256:6*256] + flags[256:512], Mem: flags})
	got = checkDmaWrite(t, "tables", mem, 1, dmaBase, strings.Repeat("\x00", 256)+strings.Repeat("x", 512))
	want := putText(putText(putText(mem, 512, bytes0(256)), 5*256, strings.Repeat("x", 256)), 256, strings.Repeat("x", 256))
	checkDma(t, "tables that go", got, impl.Dma{Mem: want})
	// Behind the part that is written the flags of the table stand as they were put.
	got = checkDmaWrite(t, "a part of the table", mem, 1, dmaBase+4, "\x01\x02\x03\x04")
	checkDma(t, "a part of the table", got, impl.Dma{Mem: putText(withFlags(mem, 0, 0, flagA|flagD), 516, "\x01\x02\x03\x04")})
}

// A table that is its own second one is read as any other.
func TestATableOfItself(t *testing.T) {
	mem := withEntries(emptyMemory(4), tableEntry{0, 0, 0, flagV}, tableEntry{0, 1, 3, dmaFlags}, tableEntry{0, 2, 0, dmaFlags})
	checkText(t, "itself", checkDmaWrite(t, "itself", mem, 0, 256, "abc").Mem[768:771], "abc")
	checkNumber(t, "itself", checkDmaRead(t, "itself", mem, 0, 0, 1).Code, impl.ErrRight)
	checkNumber(t, "itself", checkDmaRead(t, "itself", mem, 0, 512, 256).Code, impl.OK)
}

func randomAccess(rng *rand.Rand) (at int64, size int64) {
	at = 8192*rng.Int63n(4) + rng.Int63n(8192)
	size = oneOf(rng, 0, 1, rng.Int63n(300), rng.Int63n(1500), rng.Int63n(9000))
	if rng.Intn(20) == 0 {
		at = oneOf(rng, 0, 262143, 262144-size, 262143-size, 262145-size)
	}
	return at, size
}

// randomPages maps pages of the first tables' addresses, nearly all of them one behind the other.
func randomPages(rng *rand.Rand, frames int64) string {
	var entries []tableEntry
	for first := range int64(5) {
		entry := tableEntry{0, first, 1 + rng.Int63n(4), flagV}
		if rng.Intn(4) == 0 {
			entry.frame, entry.flags = 32*rng.Int63n(3), dmaFlags
		}
		entries = append(entries, entry)
	}
	for table := int64(1); table < 5; table++ {
		for second := range int64(32) {
			entry := tableEntry{table, second, rng.Int63n(frames), dmaFlags}
			if rng.Intn(12) == 0 {
				entry.flags ^= oneOf(rng, flagV, flagR, flagW, flagU, flagX, flagA, flagD, flagG)
			}
			if rng.Intn(40) == 0 {
				entry.frame = oneOf(rng, frames, frames+1, 1023, 1<<24-1)
			}
			entries = append(entries, entry)
		}
	}
	return withEntries(putText(randomMemory(rng, int(frames)), 0, bytes0(256*5)), entries...)
}

func TestDmaAgainstThePlainOne(t *testing.T) {
	rng := rand.New(rand.NewSource(117))
	codes, long := map[int64]int{}, 0
	for range 3000 {
		mem := randomPages(rng, 70)
		root := oneOf(rng, 0, 0, 0, 0, 0, 0, 0, 0, 1, 69, 70)
		at, size := randomAccess(rng)
		what := fmt.Sprintf("root %d, %d bytes from %d on", root, size, at)
		got := checkDmaRead(t, what, mem, root, at, size)
		written := checkDmaWrite(t, what, mem, root, at, randomMemory(rng, 36)[:size])
		if t.Failed() {
			return
		}
		codes[got.Code]++
		codes[written.Code]++
		if got.Code == impl.OK && size > 512 {
			long++
		}
	}
	if codes[impl.OK] < 1000 || codes[impl.ErrRight] < 1000 || codes[impl.ErrForm] < 50 || long < 100 {
		t.Errorf("codes %v, %d of more than two pages", codes, long)
	}
}

// frameRights are the frames to which a table lets a device write, and its tables.
func frameRights(mem string, root int64) (let map[int64]bool, tables map[int64]bool) {
	let, tables = map[int64]bool{}, map[int64]bool{root: true}
	for page := range int64(1024) {
		fault, pa, _, _, reads := plainWalk(mem, root, 256*page, impl.AccWrite, true)
		if fault == 0 {
			let[pa/256] = true
		}
		for _, table := range reads {
			tables[table] = true
		}
	}
	return let, tables
}

func TestP21ADeviceWritesWhereItsTableLetsIt(t *testing.T) {
	rng := rand.New(rand.NewSource(211))
	wrote, changed := 0, 0
	for range 400 {
		mem := randomPages(rng, 70)
		let, tables := frameRights(mem, 0)
		for range 5 {
			at, size := randomAccess(rng)
			got := impl.DmaWrite(mem, 0, at, randomMemory(rng, 36)[:size])
			if got.Code != impl.OK {
				checkDma(t, "a code", got, impl.Dma{Code: got.Code, At: got.At})
				continue
			}
			wrote++
			for frame := range int64(70) {
				was, is := mem[256*frame:256*frame+256], got.Mem[256*frame:256*frame+256]
				if was == is || let[frame] {
					continue
				}
				changed++
				for place := range 256 {
					// A table that is not let may have flags put, and nothing else.
					flags := tables[frame] && place%4 == 0 && place < 128
					if was[place] != is[place] && (!flags || was[place]|flagA|flagD != is[place]|flagA|flagD) {
						t.Fatalf("%d bytes from %d on change frame %d at %d", size, at, frame, place)
					}
				}
			}
		}
	}
	if wrote < 300 || changed < 50 {
		t.Errorf("a device writes but %d times, and %d tables that are not let have flags put", wrote, changed)
	}
}

func TestP21ADeviceReadsWhatItWrote(t *testing.T) {
	rng := rand.New(rand.NewSource(212))
	for round := range 600 {
		frames := rng.Perm(60)
		mem := randomMemory(rng, 60)
		root, tables := int64(frames[0]), []int64{int64(frames[1]), int64(frames[2])}
		mem = putText(mem, 256*root, bytes0(256))
		var maps []impl.PageMap
		for page := range int64(48) {
			maps = append(maps, impl.PageMap{Va: 256 * (100 + page), Frame: int64(frames[3+page]), Flags: flagR | flagW | flagU})
		}
		mapped := impl.MapPages(mem, root, maps, tables)
		checkNumber(t, "mapped", mapped.Code, impl.OK)
		at := 25600 + rng.Int63n(48*256)
		size := oneOf(rng, 0, 1, 48*256+25600-at, rng.Int63n(48*256+25600-at+1))
		data := randomMemory(rng, 48)[:size]
		what := fmt.Sprintf("round %d, %d bytes from %d on", round, size, at)
		written := impl.DmaWrite(mapped.Mem, root, at, data)
		checkNumber(t, what, written.Code, impl.OK)
		read := impl.DmaRead(written.Mem, root, at, size)
		checkText(t, what, read.Data, data)
		// What was read ahead of the write is read there no more, but around it nothing is another byte.
		before := impl.DmaRead(mapped.Mem, root, 25600, 48*256).Data
		after := impl.DmaRead(read.Mem, root, 25600, 48*256).Data
		checkText(t, what, after, putText(before, at-25600, data))
		for frame := range int64(60) {
			mine := slices.Contains(frames[:51], int(frame)) // the tables, and the pages behind them
			if !mine && mapped.Mem[256*frame:256*frame+256] != written.Mem[256*frame:256*frame+256] {
				t.Errorf("%s: frame %d is another one", what, frame)
			}
		}
		if t.Failed() {
			return
		}
	}
}

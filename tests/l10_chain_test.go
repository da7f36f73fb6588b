package tests

import (
	"fmt"
	"math"
	"slices"
	"testing"

	"loop.example/g00038/impl"
)

// A chain's tests have a memory of 512 bytes with a rowQueue of 4, whose tables end at 128; indirect tables stand at 128.
const innerAt = 128

func reads(at int64, size int64) impl.Buf  { return impl.Buf{At: at, Len: size} }
func writes(at int64, size int64) impl.Buf { return impl.Buf{At: at, Len: size, Write: true} }

// checkBufs reads the chain of descriptor 0 that is to have these buffers.
func checkBufs(t *testing.T, what string, mem string, want ...impl.Buf) {
	t.Helper()
	checkAlike(t, what, checkChain(t, what, mem, rowQueue(4), 0), impl.Chain{Bufs: want})
}

func checkChainCode(t *testing.T, what string, mem string, code int64) {
	t.Helper()
	checkAlike(t, what, checkChain(t, what, mem, rowQueue(4), 0), impl.Chain{Code: code})
}

// chainOf is the queue's table alone.
func chainOf(descs ...desc) string { return withDescs(emptyMemory(2), 0, descs...) }

// innerOf is an indirect table to which the descriptor 0 leads.
func innerOf(descs ...desc) string {
	mem := chainOf(desc{innerAt, 16 * int64(len(descs)), indirect, 0})
	return withDescs(mem, innerAt, descs...)
}

func TestChainsOfBuffers(t *testing.T) {
	checkBufs(t, "a buffer", chainOf(desc{400, 9, 0, 0}), reads(400, 9))
	checkBufs(t, "one with Write", chainOf(desc{400, 9, write, 0}), writes(400, 9))
	checkBufs(t, "a number without DescNext", chainOf(desc{400, 9, write, 77}), writes(400, 9))
	checkBufs(t, "other flags", chainOf(desc{400, 9, 1<<32 - 1 - 7, 0}), reads(400, 9))
	checkBufs(t, "flags of a packed queue", chainOf(desc{400, 9, 128 + 32768 + 2, 0}), writes(400, 9))
	checkBufs(t, "two", chainOf(desc{400, 9, next, 1}, desc{500, 12, write, 0}), reads(400, 9), writes(500, 12))
	checkBufs(t, "in another order", chainOf(desc{1, 2, next, 3}, desc{3, 4, write, 9}, desc{5, 6, next | write, 1}, desc{7, 8, next, 2}), reads(1, 2), reads(7, 8), writes(5, 6), writes(3, 4))
	checkBufs(t, "buffers that are alike", chainOf(desc{8, 8, next, 1}, desc{8, 8, 0, 0}), reads(8, 8), reads(8, 8))
	checkBufs(t, "a buffer of the tables", chainOf(desc{0, 128, write, 0}), writes(0, 128))
	checkBufs(t, "all of memory", chainOf(desc{0, 512, write, 0}), writes(0, 512))
	for head := range int64(4) {
		mem := chainOf(desc{0, 1, next, 1}, desc{1, 1, next, 2}, desc{2, 1, next, 3}, desc{3, 1, 0, 0})
		got := checkChain(t, fmt.Sprintf("head %d", head), mem, rowQueue(4), head)
		checkNumbers(t, fmt.Sprintf("head %d", head), []int64{got.Code, int64(len(got.Bufs)), got.Bufs[0].At}, []int64{impl.OK, 4 - head, head})
	}
}

func TestHeadsOfChains(t *testing.T) {
	for _, size := range []int64{1, 2, 4, 8, 16} {
		mem := emptyMemory(2)
		for _, head := range []int64{-1, size, size + 1, -size, 16, 65536, 1 << 32, math.MinInt64, math.MaxInt64} {
			checkAlike(t, fmt.Sprintf("Size %d, head %d", size, head), checkChain(t, "head", mem, rowQueue(size), head), impl.Chain{Code: impl.ErrForm})
		}
		for _, head := range []int64{0, size - 1} {
			checkAlike(t, fmt.Sprintf("Size %d, head %d", size, head), checkChain(t, "head", mem, rowQueue(size), head), impl.Chain{Bufs: []impl.Buf{{}}})
		}
	}
}

func TestBuffersAtTheEndsOfMemory(t *testing.T) {
	for _, flags := range []int64{0, write} {
		for _, b := range []impl.Buf{reads(0, 0), reads(0, 512), reads(511, 1), reads(512, 0), reads(300, 212), reads(301, 0)} {
			b.Write = flags == write
			checkBufs(t, fmt.Sprintf("%+v", b), chainOf(desc{b.At, b.Len, flags, 0}), b)
		}
		for _, b := range []impl.Buf{
			reads(0, 513), reads(511, 2), reads(512, 1), reads(513, 0), reads(1<<32-1, 0), reads(1<<32-1, 1), reads(1<<32-4, 4), reads(300, 213),
			reads(0, 1<<32-1), reads(16, 1<<32-16), reads(16, 1<<32-15), reads(1<<32-1, 1<<32-1), reads(1<<31, 1<<31), reads(1<<31, 0), reads(300, 1<<31),
		} {
			checkChainCode(t, fmt.Sprintf("%+v", b), chainOf(desc{b.At, b.Len, flags, 0}), impl.ErrSize)
			checkChainCode(t, fmt.Sprintf("%+v behind another", b), chainOf(desc{9, 9, next, 1}, desc{b.At, b.Len, flags, 0}), impl.ErrSize)
			checkChainCode(t, fmt.Sprintf("%+v in an indirect table", b), innerOf(desc{b.At, b.Len, flags, 0}), impl.ErrSize)
		}
	}
	whole := withDescs(emptyMemory(256), 0, desc{0, 65536, next, 1}, desc{65536, 0, next, 2}, desc{65535, 1, 0, 0})
	checkBufs(t, "the longest memory", whole, reads(0, 65536), reads(65536, 0), reads(65535, 1))
}

func TestNumbersThatLeadOut(t *testing.T) {
	for _, number := range []int64{4, 5, 15, 16, 65536, 1 << 31, 1<<32 - 1} {
		checkChainCode(t, fmt.Sprintf("to %d", number), chainOf(desc{9, 9, next, number}), impl.ErrNone)
		checkChainCode(t, fmt.Sprintf("to %d, later", number), chainOf(desc{9, 9, next, 2}, desc{}, desc{9, 9, next, number}), impl.ErrNone)
		checkChainCode(t, fmt.Sprintf("to %d in an indirect table", number), innerOf(desc{9, 9, next, number}, desc{9, 9, 0, 0}), impl.ErrNone)
	}
	checkChainCode(t, "the queue's numbers in an indirect table", innerOf(desc{9, 9, next, 2}, desc{9, 9, 0, 0}), impl.ErrNone)
	for _, size := range []int64{1, 2, 4, 8, 16} {
		mem := withDescs(emptyMemory(2), 0, desc{9, 9, next, size})
		checkAlike(t, fmt.Sprintf("Size %d", size), checkChain(t, "out", mem, rowQueue(size), 0), impl.Chain{Code: impl.ErrNone})
	}
}

// inRow are descriptors that lead one to the next, the last one to the number told.
func inRow(count int64, flags int64, last int64) []desc {
	var descs []desc
	for n := range count {
		descs = append(descs, desc{n, 1, next, n + 1})
	}
	descs[count-1].flags, descs[count-1].number = flags, last
	return descs
}

func TestChainsThatGoRound(t *testing.T) {
	for _, size := range []int64{1, 2, 4, 8, 16} {
		q := rowQueue(size)
		mem := withDescs(emptyMemory(4), 0, inRow(size, 0, 0)...)
		checkNumber(t, fmt.Sprintf("just Size %d", size), int64(len(checkChain(t, "just Size", mem, q, 0).Bufs)), size)
		mem = withDescs(emptyMemory(4), 0, inRow(size, next, 0)...)
		for head := range size {
			checkAlike(t, fmt.Sprintf("round with Size %d", size), checkChain(t, "round", mem, q, head), impl.Chain{Code: impl.ErrConflict})
		}
		mem = withDescs(emptyMemory(4), 0, inRow(size, next, size-1)...)
		checkAlike(t, fmt.Sprintf("to itself with Size %d", size), checkChain(t, "to itself", mem, q, 0), impl.Chain{Code: impl.ErrConflict})
	}
}

// An indirect table is counted by itself: neither the queue's Size nor what was read ahead of it bounds it.
func TestIndirectTablesOfEachLength(t *testing.T) {
	for _, size := range []int64{1, 2, 4, 8, 16} {
		q := rowQueue(size)
		for count := int64(1); count <= 16; count++ {
			what := fmt.Sprintf("Size %d, a table of %d", size, count)
			ahead := inRow(size, indirect, 0)
			ahead[size-1].place, ahead[size-1].length = 512, 16*count
			mem := withDescs(emptyMemory(4), 0, ahead...)
			got := checkChain(t, what, withDescs(mem, 512, inRow(count, 0, 0)...), q, 0)
			checkNumbers(t, what, []int64{got.Code, int64(len(got.Bufs))}, []int64{impl.OK, size - 1 + count})
			got = checkChain(t, what+", round", withDescs(mem, 512, inRow(count, next, 0)...), q, 0)
			checkAlike(t, what+", round", got, impl.Chain{Code: impl.ErrConflict})
			got = checkChain(t, what+", out of it", withDescs(mem, 512, inRow(count, next, count)...), q, 0)
			checkAlike(t, what+", out of it", got, impl.Chain{Code: impl.ErrNone})
		}
	}
}

func TestIndirectTables(t *testing.T) {
	checkBufs(t, "one", innerOf(desc{400, 9, write, 0}), writes(400, 9))
	checkBufs(t, "not all is used", innerOf(desc{400, 9, next, 2}, desc{1, 1, next, 9}, desc{500, 1, 0, 0}), reads(400, 9), reads(500, 1))
	mem := innerOf(desc{400, 9, next, 1}, desc{500, 1, write, 0})
	checkBufs(t, "its own Write is nobody's", withWord(mem, 8, indirect|write), reads(400, 9), writes(500, 1))
	checkBufs(t, "its number is nobody's", withWord(mem, 12, 99), reads(400, 9), writes(500, 1))
	checkBufs(t, "behind buffers", withDescs(mem, 0, desc{1, 2, next, 2}, desc{innerAt, 32, indirect, 0}, desc{3, 4, next, 1}), reads(1, 2), reads(3, 4), reads(400, 9), writes(500, 1))
	mem = innerOf(desc{400, 9, write, 0})
	checkBufs(t, "behind one with Write", withDescs(mem, 0, desc{1, 2, next | write, 1}, desc{innerAt, 16, indirect, 0}), writes(1, 2), writes(400, 9))
	mem = innerOf(desc{400, 9, next, 1}, desc{401, 8, 0, 0})
	checkChainCode(t, "behind one with Write, without", withDescs(mem, 0, desc{1, 2, next | write, 1}, desc{innerAt, 32, indirect, 0}), impl.ErrState)
	queue := chainOf(desc{16, 32, indirect, 0}, desc{7, 7, next, 1}, desc{8, 8, 0, 0})
	checkBufs(t, "a table that is in the queue's", queue, reads(7, 7), reads(8, 8))
	checkChainCode(t, "a table that begins with itself", chainOf(desc{0, 16, indirect, 0}), impl.ErrSyntax)
}

func TestPlacesOfIndirectTables(t *testing.T) {
	for _, place := range []int64{128, 132, 136, 140, 496, 492} {
		mem := withDescs(chainOf(desc{place, 16, indirect, 0}), place, desc{5, 6, write, 0})
		checkBufs(t, fmt.Sprintf("a table at %d", place), mem, writes(5, 6))
	}
	for _, place := range []int64{127, 129, 130, 131, 495, 497, 498, 513, 1<<32 - 1, 1<<32 - 2} {
		checkChainCode(t, fmt.Sprintf("a table at %d", place), chainOf(desc{place, 16, indirect, 0}), impl.ErrSyntax)
	}
	for _, place := range []int64{500, 504, 508, 512, 516, 1 << 31, 1<<32 - 4, 1<<32 - 16} {
		checkChainCode(t, fmt.Sprintf("a table at %d", place), chainOf(desc{place, 16, indirect, 0}), impl.ErrSize)
	}
	full := withDescs(chainOf(desc{256, 256, indirect, 0}), 256, inRow(16, 0, 0)...)
	checkNumber(t, "MaxQueue to the end", int64(len(checkChain(t, "full", full, rowQueue(4), 0).Bufs)), 16)
	checkChainCode(t, "MaxQueue beyond the end", withWord(full, 0, 260), impl.ErrSize)
	for _, length := range []int64{0, 1, 4, 8, 15, 17, 24, 31, 33, 255, 257, 272, 288, 512, 1 << 31, 1<<32 - 16, 1<<32 - 1} {
		checkChainCode(t, fmt.Sprintf("a length of %d", length), withWord(full, 4, length), impl.ErrSyntax)
	}
}

func TestFlagsOfIndirectTables(t *testing.T) {
	mem := innerOf(desc{400, 9, 0, 0})
	checkChainCode(t, "with DescNext", withDescs(mem, 0, desc{innerAt, 16, indirect | next, 1}), impl.ErrSyntax)
	checkChainCode(t, "with DescNext that leads out", withDescs(mem, 0, desc{innerAt, 16, indirect | next, 9}), impl.ErrSyntax)
	checkChainCode(t, "within an indirect one", innerOf(desc{400, 9, next, 1}, desc{innerAt, 16, indirect, 0}), impl.ErrSyntax)
	checkChainCode(t, "within one, at its beginning", innerOf(desc{innerAt, 16, indirect | write, 0}), impl.ErrSyntax)
	checkChainCode(t, "within one, to one that is not in memory", innerOf(desc{1024, 16, indirect, 0}), impl.ErrSyntax)
}

func TestWriteStandsLast(t *testing.T) {
	checkChainCode(t, "without Write behind one with it", chainOf(desc{9, 9, next | write, 1}, desc{9, 9, 0, 0}), impl.ErrState)
	checkChainCode(t, "between", chainOf(desc{9, 9, next, 1}, desc{9, 9, next | write, 2}, desc{9, 9, next, 3}, desc{9, 9, write, 0}), impl.ErrState)
	checkChainCode(t, "of length 0", chainOf(desc{9, 0, next | write, 1}, desc{9, 0, 0, 0}), impl.ErrState)
	checkChainCode(t, "in an indirect table", innerOf(desc{9, 9, next, 1}, desc{9, 9, next | write, 2}, desc{9, 9, 0, 0}), impl.ErrState)
	checkBufs(t, "all with Write", chainOf(desc{9, 1, next | write, 1}, desc{9, 2, next | write, 2}, desc{9, 3, write, 0}), writes(9, 1), writes(9, 2), writes(9, 3))
}

// Where two codes would do, the one that comes first in the order told is answered.
func TestTheOrderOfCodesOfAChain(t *testing.T) {
	two := rowQueue(2)
	mem := withDescs(emptyMemory(2), 0, desc{9, 9, next, 1}, desc{9, 9, next, 2})
	checkAlike(t, "ErrNone ahead of ErrConflict", checkChain(t, "two", mem, two, 0), impl.Chain{Code: impl.ErrNone})
	mem = withDescs(emptyMemory(2), 0, desc{9, 9, next, 1}, desc{9, 9, next | write, 0})
	checkAlike(t, "ErrConflict ahead of ErrState", checkChain(t, "two", mem, two, 0), impl.Chain{Code: impl.ErrConflict})
	checkChainCode(t, "ErrState as it is come to", mem, impl.ErrState)
	checkChainCode(t, "ErrSyntax ahead of ErrSize: length", chainOf(desc{512, 24, indirect, 0}), impl.ErrSyntax)
	checkChainCode(t, "ErrSyntax ahead of ErrSize: place", chainOf(desc{514, 16, indirect, 0}), impl.ErrSyntax)
	checkChainCode(t, "ErrSyntax ahead of ErrSize: DescNext", chainOf(desc{512, 16, indirect | next, 0}), impl.ErrSyntax)
	checkChainCode(t, "ErrSize ahead of ErrState", chainOf(desc{9, 9, next | write, 1}, desc{512, 1, 0, 0}), impl.ErrSize)
	checkChainCode(t, "a buffer's code ahead of where its number leads", chainOf(desc{512, 1, next, 4}), impl.ErrSize)
	checkChainCode(t, "ErrState ahead of where its number leads", chainOf(desc{9, 9, next | write, 1}, desc{9, 9, next, 4}), impl.ErrState)
	checkChainCode(t, "the first wrong descriptor's", chainOf(desc{9, 9, next | write, 1}, desc{9, 9, next, 2}, desc{0, 0, indirect, 0}), impl.ErrState)
	checkChainCode(t, "the first wrong descriptor's", chainOf(desc{9, 9, next, 1}, desc{0, 0, indirect, 0}, desc{512, 1, 0, 0}), impl.ErrSyntax)
	wrong := chainOf(desc{512, 1, 0, 0})
	checkAlike(t, "ErrForm ahead of all", checkChain(t, "head", wrong, rowQueue(4), 4), impl.Chain{Code: impl.ErrForm})
}

// takeFrom is a queue of 4 that has come to taken, with count at Avail and the numbers of first descriptors.
func takeFrom(taken int64, count int64, heads ...int64) (string, impl.Queue) {
	q := rowQueue(4)
	q.Taken = taken
	mem := withWord(chainOf(desc{0, 1, 0, 0}, desc{1, 1, 0, 0}, desc{2, 1, 0, 0}, desc{3, 1, 0, 0}), q.Avail+4, count)
	for n, head := range heads {
		mem = withWord(mem, q.Avail+8+4*int64(n), head)
	}
	return mem, q
}

func TestHowManyAreAvailable(t *testing.T) {
	for _, taken := range []int64{0, 1, 2, 5, 32767, 65531, 65532, 65534, 65535} {
		for more, code := range map[int64]int64{0: impl.ErrNone, 1: 0, 2: 0, 3: 0, 4: 0, 5: impl.ErrLimit, 6: impl.ErrLimit, 32768: impl.ErrLimit, 65535: impl.ErrLimit} {
			// The flags at Avail, and the bits of the count above the sixteenth, are nobody's.
			for _, high := range []int64{0, 65536, 1<<32 - 65536} {
				what := fmt.Sprintf("Taken %d and %d more", taken, more)
				mem, q := takeFrom(taken, (taken+more)%65536+high, 3, 1, 0, 2)
				mem = withWord(mem, q.Avail, 1<<32-1)
				want := impl.TakenChain{Code: code}
				if code == impl.OK {
					head := []int64{3, 1, 0, 2}[taken%4]
					want = impl.TakenChain{Head: head, Bufs: []impl.Buf{reads(head, 1)}, Queue: q}
					want.Queue.Taken = (taken + 1) % 65536
				}
				checkAlike(t, what, checkTake(t, what, mem, q), want)
			}
		}
	}
}

func TestCodesOfTakenChains(t *testing.T) {
	mem, q := takeFrom(65535, 0, 9, 9, 9, 0)
	behind := q
	behind.Taken = 0
	for code, d := range map[int64]desc{impl.ErrNone: {1, 1, next, 4}, impl.ErrConflict: {1, 1, next, 0}, impl.ErrSyntax: {1, 1, indirect, 0}, impl.ErrSize: {513, 0, 0, 0}} {
		what := fmt.Sprintf("code %d", code)
		checkAlike(t, what, checkTake(t, what, withDescs(mem, 0, d), q), impl.TakenChain{Code: code, Queue: behind})
	}
	state := withDescs(mem, 0, desc{1, 1, next | write, 3}, desc{}, desc{}, desc{1, 1, 0, 0})
	checkAlike(t, "ErrState", checkTake(t, "ErrState", state, q), impl.TakenChain{Code: impl.ErrState, Queue: behind})
	for _, head := range []int64{4, 5, 16, 65536, 1<<32 - 1} {
		what := fmt.Sprintf("a first descriptor %d", head)
		got := checkTake(t, what, withWord(mem, q.Avail+20, head), q)
		checkAlike(t, what, got, impl.TakenChain{Code: impl.ErrForm, Head: head, Queue: behind})
	}
	wrong := withDescs(withWord(mem, q.Avail+20, 1), 16, desc{513, 0, 0, 0})
	checkAlike(t, "Head with a code", checkTake(t, "Head", wrong, q), impl.TakenChain{Code: impl.ErrSize, Head: 1, Queue: behind})
	checkAlike(t, "ErrNone ahead of a wrong chain", checkTake(t, "none", withWord(wrong, q.Avail+4, 65535), q), impl.TakenChain{Code: impl.ErrNone})
	checkAlike(t, "ErrLimit ahead of a wrong chain", checkTake(t, "many", withWord(wrong, q.Avail+4, 4), q), impl.TakenChain{Code: impl.ErrLimit})
}

// What a taken chain holds is its own: a second one does not see what was done to the first.
func TestChainsAreNewMemory(t *testing.T) {
	mem := chainOf(desc{400, 9, next, 1}, desc{500, 12, write, 0})
	first, second := impl.ReadChain(mem, rowQueue(4), 0), impl.ReadChain(mem, rowQueue(4), 0)
	kept := slices.Clone(second.Bufs)
	first.Bufs[0] = impl.Buf{At: 7}
	checkAlike(t, "a second chain", second.Bufs, kept)
	checkAlike(t, "a third chain", impl.ReadChain(mem, rowQueue(4), 0).Bufs, kept)
}

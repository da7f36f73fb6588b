package tests

import (
	"fmt"
	"math"
	"math/rand"
	"slices"
	"testing"

	"loop.example/g00038/impl"
)

// Where a packed queue is tested its ring stands here, in a memory of 512 bytes.
const ringAt = 100

// readyFlags are what the driver puts to a descriptor in a round to make it available.
func readyFlags(wrap bool) int64 {
	if wrap {
		return impl.DescAvail
	}
	return impl.DescUsed
}

// ringOf is a ring that begins its chain at At; each descriptor is made available.
func ringOf(p impl.Packed, descs ...desc) string {
	mem := emptyMemory(2)
	for n, d := range descs {
		d.flags |= readyFlags(p.Wrap)
		mem = withDescs(mem, p.Ring+16*((p.At+int64(n))%p.Size), d)
	}
	return mem
}

// checkRing takes a chain in either round from every place of rings of four and of as many as the descriptors.
func checkRing(t *testing.T, what string, want impl.TakenPacked, descs ...desc) {
	t.Helper()
	for _, size := range []int64{4, int64(len(descs))} {
		for at := range size {
			for _, wrap := range []bool{false, true} {
				p := impl.Packed{Size: size, Ring: ringAt, At: at, Wrap: wrap}
				told := fmt.Sprintf("%s: %+v", what, p)
				checkAlike(t, told, checkTakePacked(t, told, ringOf(p, descs...), p), want)
			}
		}
	}
}

func TestPackedChains(t *testing.T) {
	checkRing(t, "one", impl.TakenPacked{Id: 7, Count: 1, Bufs: []impl.Buf{reads(3, 4)}}, desc{3, 4, 0, 7})
	checkRing(t, "one with Write", impl.TakenPacked{Id: 7, Count: 1, Bufs: []impl.Buf{writes(3, 4)}}, desc{3, 4, write, 7})
	checkRing(t, "two", impl.TakenPacked{Id: 8, Count: 2, Bufs: []impl.Buf{reads(3, 4), writes(5, 6)}}, desc{3, 4, next, 7}, desc{5, 6, write, 8})
	checkRing(t, "three", impl.TakenPacked{Id: 0, Count: 3, Bufs: []impl.Buf{reads(3, 4), reads(5, 6), reads(7, 8)}}, desc{3, 4, next, 7}, desc{5, 6, next, 8}, desc{7, 8, 0, 0})
	checkRing(t, "four, all with Write", impl.TakenPacked{Id: 4, Count: 4, Bufs: []impl.Buf{writes(3, 4), writes(3, 4), writes(5, 6), writes(512, 0)}},
		desc{3, 4, next | write, 1}, desc{3, 4, next | write, 2}, desc{5, 6, next | write, 3}, desc{512, 0, write, 4})
	checkRing(t, "numbers lead nowhere", impl.TakenPacked{Id: 9, Count: 2, Bufs: []impl.Buf{reads(1, 1), reads(2, 2)}}, desc{1, 1, next, 0}, desc{2, 2, 0, 9})
	checkRing(t, "other flags", impl.TakenPacked{Id: 9, Count: 1, Bufs: []impl.Buf{reads(1, 1)}}, desc{1, 1, 1<<32 - 1 - 7 - 128 - 32768, 9})
	for number, id := range map[int64]int64{0: 0, 1: 1, 65535: 65535, 65536: 0, 65537: 1, 1<<32 - 1: 65535, 1 << 31: 0, 0x12345678: 0x5678} {
		checkRing(t, fmt.Sprintf("number %d", number), impl.TakenPacked{Id: id, Count: 1, Bufs: []impl.Buf{reads(1, 1)}}, desc{1, 1, 0, number})
	}
}

func TestWhichDescriptorsAreAvailable(t *testing.T) {
	for _, wrap := range []bool{false, true} {
		for _, avail := range []bool{false, true} {
			for _, used := range []bool{false, true} {
				flags := int64(0)
				if avail {
					flags += 128
				}
				if used {
					flags += 32768
				}
				p := impl.Packed{Size: 2, Ring: ringAt, At: 1, Wrap: wrap}
				mem := withDescs(emptyMemory(2), ringAt+16, desc{1, 2, flags, 3})
				what := fmt.Sprintf("Wrap %v, DescAvail %v, DescUsed %v", wrap, avail, used)
				want := impl.TakenPacked{Code: impl.ErrNone}
				if avail == wrap && used != wrap {
					want = impl.TakenPacked{Id: 3, Count: 1, Bufs: []impl.Buf{reads(1, 2)}}
				}
				checkAlike(t, what, checkTakePacked(t, what, mem, p), want)
				// Of the descriptors behind the first one nobody asks whether they are available.
				mem = withDescs(mem, ringAt, desc{1, 2, readyFlags(wrap) | next, 0})
				p.At = 0
				checkAlike(t, what+" behind", checkTakePacked(t, what, mem, p), impl.TakenPacked{Id: 3, Count: 2, Bufs: []impl.Buf{reads(1, 2), reads(1, 2)}})
			}
		}
	}
}

func TestPackedChainsThatGoAround(t *testing.T) {
	for size := int64(1); size <= 16; size++ {
		for at := range size {
			for _, wrap := range []bool{false, true} {
				p := impl.Packed{Size: size, Ring: ringAt, At: at, Wrap: wrap}
				what := fmt.Sprintf("%+v", p)
				var want []impl.Buf
				for n := range size {
					want = append(want, reads(n, 1))
				}
				mem := ringOf(p, inRow(size, 0, 65)...)
				checkAlike(t, what, checkTakePacked(t, what, mem, p), impl.TakenPacked{Id: 65, Count: size, Bufs: want})
				mem = ringOf(p, inRow(size, next, 0)...)
				checkAlike(t, what+" without an end", checkTakePacked(t, what, mem, p), impl.TakenPacked{Code: impl.ErrConflict})
			}
		}
	}
}

func TestCodesOfPackedChains(t *testing.T) {
	refused := func(what string, code int64, descs ...desc) {
		t.Helper()
		checkRing(t, what, impl.TakenPacked{Code: code}, descs...)
	}
	refused("ErrSyntax", impl.ErrSyntax, desc{16, 16, indirect, 0})
	refused("ErrSyntax behind another", impl.ErrSyntax, desc{1, 1, next, 0}, desc{16, 16, indirect, 0})
	for _, b := range []impl.Buf{reads(512, 1), reads(513, 0), reads(0, 513), reads(511, 2), reads(1<<32-1, 1), reads(16, 1<<32-16), reads(1<<32-1, 1<<32-1), reads(0, 1<<32-1)} {
		refused(fmt.Sprintf("ErrSize: %+v", b), impl.ErrSize, desc{b.At, b.Len, 0, 0})
		refused(fmt.Sprintf("ErrSize: %+v with Write, behind another", b), impl.ErrSize, desc{1, 1, next, 0}, desc{b.At, b.Len, write, 0})
	}
	refused("ErrState", impl.ErrState, desc{1, 1, next | write, 0}, desc{1, 1, 0, 0})
	refused("ErrState between", impl.ErrState, desc{1, 1, next, 0}, desc{1, 1, next | write, 0}, desc{1, 1, next, 0}, desc{1, 1, write, 0})
	refused("ErrSyntax ahead of ErrSize", impl.ErrSyntax, desc{513, 1, indirect, 0})
	refused("ErrSyntax ahead of ErrState", impl.ErrSyntax, desc{1, 1, next | write, 0}, desc{1, 1, indirect, 0})
	refused("ErrSize ahead of ErrState", impl.ErrSize, desc{1, 1, next | write, 0}, desc{512, 1, 0, 0})
	refused("the first wrong descriptor's", impl.ErrSize, desc{512, 1, next, 0}, desc{1, 1, indirect, 0})
	refused("the first wrong descriptor's", impl.ErrState, desc{1, 1, next | write, 0}, desc{1, 1, next, 0}, desc{512, 1, 0, 0})
	checkNumber(t, "ErrConflict ahead of ErrState", impl.TakePacked(withDescs(emptyMemory(1), 0, desc{1, 1, 128 | next, 0}, desc{1, 1, next | write, 0}), impl.Packed{Size: 2, Wrap: true}).Code, impl.ErrConflict)
	wrong := withDescs(emptyMemory(1), 0, desc{512, 1, 32768 | indirect | next, 0})
	checkAlike(t, "ErrNone ahead of all", checkTakePacked(t, "none", wrong, impl.Packed{Size: 1, Wrap: true}), impl.TakenPacked{Code: impl.ErrNone})
	checkAlike(t, "ErrSyntax", checkTakePacked(t, "indirect", wrong, impl.Packed{Size: 1}), impl.TakenPacked{Code: impl.ErrSyntax})
}

func TestPackedChainsGoBack(t *testing.T) {
	mem := filledMemory(2)
	for size := int64(1); size <= 16; size++ {
		for at := range size {
			for count := int64(1); count <= size; count++ {
				for _, wrap := range []bool{false, true} {
					p := impl.Packed{Size: size, Ring: ringAt, At: at, Wrap: wrap}
					what := fmt.Sprintf("%+v, count %d", p, count)
					got := checkGivePacked(t, what, mem, p, 5, 9, count)
					flags := int64(0)
					if wrap {
						flags = 128 + 32768
					}
					place := ringAt + 16*at
					checkNumbers(t, what, changedPlaces(t, mem, got.Mem), []int64{place, 0, place + 4, 9, place + 8, flags, place + 12, 5})
					want := impl.Packed{Size: size, Ring: ringAt, At: at + count, Wrap: wrap}
					if at+count >= size {
						want.At, want.Wrap = at+count-size, !wrap
					}
					checkAlike(t, what, got.Packed, want)
				}
			}
		}
	}
	p := impl.Packed{Size: 4, Ring: ringAt, At: 1}
	for _, id := range []int64{0, 1, 65535} {
		for _, size := range []int64{0, 1, 1 << 31, 1<<32 - 1} {
			what := fmt.Sprintf("id %d, size %d", id, size)
			checkAlike(t, what, descAt(checkGivePacked(t, what, mem, p, id, size, 1).Mem, ringAt+16), desc{0, size, 0, id})
		}
	}
}

func TestWhatDoesNotGoBackToARing(t *testing.T) {
	mem := emptyMemory(2)
	for _, size := range []int64{1, 3, 4, 16} {
		for _, wrap := range []bool{false, true} {
			p := impl.Packed{Size: size, Ring: ringAt, At: size - 1, Wrap: wrap}
			refused := func(what string, id int64, length int64, count int64) {
				t.Helper()
				checkGivenPacked(t, what, checkGivePacked(t, what, mem, p, id, length, count), impl.GivenPacked{Code: impl.ErrForm})
			}
			for _, id := range []int64{-1, 65536, 65537, 1 << 32, 1<<32 - 1, -65536, math.MinInt64, math.MaxInt64} {
				refused(fmt.Sprintf("id %d", id), id, 0, 1)
			}
			for _, length := range []int64{-1, 1 << 32, 1<<32 + 1, math.MinInt64, math.MaxInt64} {
				refused(fmt.Sprintf("size %d", length), 0, length, 1)
			}
			for _, count := range []int64{-1, 0, size + 1, -size, 2 * size, 17, math.MinInt64, math.MaxInt64} {
				refused(fmt.Sprintf("count %d", count), 0, 0, count)
			}
		}
	}
}

// postRing is the driver's side of a packed queue: a chain with an id, made available from the driver's place on.
func postRing(mem string, driver impl.Packed, id int64, bufs []impl.Buf) string {
	for n, b := range bufs {
		at := driver.At + int64(n)
		flags := readyFlags(driver.Wrap != (at >= driver.Size))
		if b.Write {
			flags |= write
		}
		if n+1 < len(bufs) {
			flags |= next
		}
		mem = withDescs(mem, driver.Ring+16*(at%driver.Size), desc{b.At, b.Len, flags, id})
	}
	return mem
}

// A chain that is given back is available no more, wherever its ring is and whichever round it is in.
func TestRoundsOfARing(t *testing.T) {
	rng := rand.New(rand.NewSource(104))
	for size := int64(1); size <= 16; size++ {
		p := impl.Packed{Size: size, Ring: 4 * rng.Int63n(60), Wrap: true}
		mem := emptyMemory(2)
		for round := range int64(80) {
			what := fmt.Sprintf("%+v, round %d", p, round)
			checkNumber(t, what+": nothing yet", impl.TakePacked(mem, p).Code, impl.ErrNone)
			id, bufs := rng.Int63n(65536), postable(rng, 512, 1+rng.Int63n(size))
			mem = postRing(mem, p, id, bufs)
			got := checkTakePacked(t, what, mem, p)
			checkAlike(t, what, got, impl.TakenPacked{Id: id, Count: int64(len(bufs)), Bufs: slices.Clone(bufs)})
			back := checkGivePacked(t, what, mem, p, got.Id, round, got.Count)
			checkNumber(t, what, back.Code, impl.OK)
			mem, p = back.Mem, back.Packed
			if t.Failed() {
				return
			}
		}
	}
}

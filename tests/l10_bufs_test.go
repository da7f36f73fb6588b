package tests

import (
	"fmt"
	"math"
	"math/rand"
	"slices"
	"strings"
	"testing"

	"loop.example/g00038/impl"
)

// wrongBufs are not in a memory of that many bytes.
func wrongBufs(whole int64) []impl.Buf {
	least, most := int64(math.MinInt64), int64(math.MaxInt64)
	return []impl.Buf{
		reads(-1, 0), reads(-1, 1), reads(-1, 2), reads(0, -1), reads(5, -1), reads(whole, -1), reads(whole+1, -1), reads(whole, 1), reads(whole+1, 0), reads(0, whole+1), reads(whole-1, 2), reads(1, whole),
		reads(1<<32, 0), reads(1<<32, 4), reads(0, 1<<32), reads(4, 1<<32), reads(4, 1<<32-4), reads(1<<32-4, 4), reads(1<<32-1, 1<<32-1),
		reads(most, 0), reads(most, 1), reads(most, most), reads(0, most), reads(1, most), reads(whole, most), reads(whole, most-whole), reads(most-1, 2), reads(1<<62, 1<<62),
		reads(least, 0), reads(least, 1), reads(least, most), reads(least, least), reads(0, least), reads(1, least), reads(most, least), reads(least+whole, whole), reads(most-whole, whole),
	}
}

// checkGathered gathers buffers that are to be that text.
func checkGathered(t *testing.T, what string, mem string, bufs []impl.Buf, want string) {
	t.Helper()
	asked := slices.Clone(bufs)
	checkText(t, what+": GatherBufs", impl.GatherBufs(mem, bufs), want)
	checkAlike(t, what+": the bufs handed in", bufs, asked)
}

// checkSpread spreads data that is to make that memory.
func checkSpread(t *testing.T, what string, mem string, bufs []impl.Buf, data string, want string) {
	t.Helper()
	asked := slices.Clone(bufs)
	checkText(t, what+": SpreadBufs", impl.SpreadBufs(mem, bufs, data), want)
	checkAlike(t, what+": the bufs handed in", bufs, asked)
}

// numberedMemory has no two places near each other that are alike.
func numberedMemory(frames int) string {
	bytes := make([]byte, 256*frames)
	for at := range bytes {
		bytes[at] = byte(at + at/256*7)
	}
	return string(bytes)
}

func TestGatherBufs(t *testing.T) {
	mem := numberedMemory(2)
	checkGathered(t, "no bufs", mem, nil, "")
	checkGathered(t, "one", mem, []impl.Buf{reads(10, 5)}, mem[10:15])
	checkGathered(t, "two", mem, []impl.Buf{reads(10, 5), reads(3, 2)}, mem[10:15]+mem[3:5])
	checkGathered(t, "those with Write are left out", mem, []impl.Buf{reads(10, 5), writes(90, 9), reads(3, 2), writes(0, 512)}, mem[10:15]+mem[3:5])
	checkGathered(t, "all with Write", mem, []impl.Buf{writes(10, 5), writes(3, 2)}, "")
	checkGathered(t, "in one another", mem, []impl.Buf{reads(10, 5), reads(12, 5), reads(10, 5), reads(0, 512)}, mem[10:15]+mem[12:17]+mem[10:15]+mem)
	checkGathered(t, "over the end of a frame", mem, []impl.Buf{reads(250, 12)}, mem[250:262])
	checkGathered(t, "at the ends", mem, []impl.Buf{reads(511, 1), reads(0, 1), reads(512, 0), reads(0, 0), reads(510, 2)}, mem[511:]+mem[:1]+mem[510:])
}

func TestSpreadBufs(t *testing.T) {
	mem := numberedMemory(2)
	checkSpread(t, "no bufs", mem, nil, "abc", mem)
	checkSpread(t, "no data", mem, []impl.Buf{writes(10, 5)}, "", mem)
	checkSpread(t, "just as much", mem, []impl.Buf{writes(10, 5)}, "abcde", mem[:10]+"abcde"+mem[15:])
	checkSpread(t, "less", mem, []impl.Buf{writes(10, 5)}, "abc", mem[:10]+"abc"+mem[13:])
	checkSpread(t, "more", mem, []impl.Buf{writes(10, 5)}, "abcdefg", mem[:10]+"abcde"+mem[15:])
	checkSpread(t, "two", mem, []impl.Buf{writes(10, 3), writes(3, 2)}, "abcdefg", mem[:3]+"de"+mem[5:10]+"abc"+mem[13:])
	checkSpread(t, "two, and data for one", mem, []impl.Buf{writes(10, 3), writes(3, 2)}, "abc", mem[:10]+"abc"+mem[13:])
	checkSpread(t, "those without Write are passed over", mem, []impl.Buf{reads(10, 3), writes(30, 2), reads(0, 512), writes(20, 2)}, "abcd", mem[:20]+"cd"+mem[22:30]+"ab"+mem[32:])
	checkSpread(t, "all without Write", mem, []impl.Buf{reads(10, 3), reads(0, 512)}, "abcd", mem)
	checkSpread(t, "in one another", mem, []impl.Buf{writes(10, 4), writes(12, 4), writes(11, 1)}, "abcdefghi", mem[:10]+"aiefgh"+mem[16:])
	checkSpread(t, "one twice", mem, []impl.Buf{writes(10, 2), writes(10, 2)}, "abc", mem[:10]+"cb"+mem[12:])
	checkSpread(t, "over the end of a frame", mem, []impl.Buf{writes(254, 4)}, "abcd", mem[:254]+"abcd"+mem[258:])
	checkSpread(t, "at the ends", mem, []impl.Buf{writes(511, 1), writes(512, 0), writes(0, 0), writes(0, 1)}, "ab", "b"+mem[1:511]+"a")
	checkSpread(t, "all of memory", mem, []impl.Buf{writes(0, 512)}, strings.Repeat("x", 600), strings.Repeat("x", 512))
}

func TestBufsThatAreNotInMemory(t *testing.T) {
	for _, frames := range []int{1, 2, 256} {
		mem := numberedMemory(frames)
		for _, wrong := range wrongBufs(int64(len(mem))) {
			for _, isWrite := range []bool{false, true} {
				wrong.Write = isWrite
				what := fmt.Sprintf("%d frames, %+v", frames, wrong)
				for _, bufs := range [][]impl.Buf{{wrong}, {reads(0, 4), writes(8, 4), wrong}, {wrong, reads(0, 4), writes(8, 4)}} {
					checkGathered(t, what, mem, bufs, "")
					checkSpread(t, what, mem, bufs, "abcdef", "")
					checkSpread(t, what+", no data", mem, bufs, "", "")
				}
			}
		}
	}
	for what, mem := range wrongMemories() {
		checkGathered(t, what, mem, []impl.Buf{reads(0, 1)}, "")
		checkSpread(t, what, mem, []impl.Buf{writes(0, 1)}, "a", "")
		checkSpread(t, what+", no bufs", mem, nil, "", "")
	}
	for _, mem := range longMemories() {
		checkGathered(t, "too long", mem, []impl.Buf{reads(0, 1)}, "")
		checkSpread(t, "too long", mem, []impl.Buf{writes(0, 1)}, "a", "")
	}
}

func manyBufs(count int, b impl.Buf) []impl.Buf { return slices.Repeat([]impl.Buf{b}, count) }

func TestHowManyBufsThereMayBe(t *testing.T) {
	mem := numberedMemory(2)
	checkGathered(t, "MaxList", mem, manyBufs(1000, reads(7, 1)), strings.Repeat(mem[7:8], 1000))
	checkGathered(t, "more than MaxList", mem, manyBufs(1001, reads(7, 1)), "")
	checkGathered(t, "more than MaxList, most with Write", mem, append(manyBufs(1000, writes(7, 1)), reads(7, 1)), "")
	rows := make([]impl.Buf, 1000)
	for n := range rows {
		rows[n] = writes(int64(n)%512, 1)
	}
	data := strings.Repeat("abcdefg", 143)[:1000]
	checkSpread(t, "MaxList", mem, rows, data, data[512:]+data[488:512])
	checkSpread(t, "more than MaxList", mem, append(rows, writes(0, 1)), data, "")
	checkSpread(t, "more than MaxList, no data", mem, append(rows, reads(0, 0)), "", "")
}

func TestHowMuchIsGathered(t *testing.T) {
	mem := numberedMemory(256)
	checkGathered(t, "MaxBytes at once", mem, []impl.Buf{reads(0, 65536)}, mem)
	checkGathered(t, "MaxBytes in two", mem, []impl.Buf{reads(65535, 1), reads(1, 65535)}, mem[65535:]+mem[1:])
	checkGathered(t, "nothing more", mem, []impl.Buf{reads(0, 65536), reads(9, 0), reads(65536, 0)}, mem)
	checkGathered(t, "one more", mem, []impl.Buf{reads(0, 65536), reads(9, 1)}, "")
	checkGathered(t, "one more ahead", mem, []impl.Buf{reads(9, 1), reads(0, 65536)}, "")
	checkGathered(t, "very much more", mem, manyBufs(1000, reads(0, 65536)), "")
	checkGathered(t, "Write does not count", mem, append(manyBufs(999, writes(0, 65536)), reads(0, 65536)), mem)
	small := numberedMemory(1)
	checkGathered(t, "a small memory often", small, manyBufs(256, reads(0, 256)), strings.Repeat(small, 256))
	checkGathered(t, "a small memory too often", small, append(manyBufs(256, reads(0, 256)), reads(255, 1)), "")
}

func TestHowMuchIsSpread(t *testing.T) {
	mem := numberedMemory(256)
	data := strings.Repeat("0123456789abcdef", 4096)
	checkSpread(t, "MaxBytes", mem, []impl.Buf{writes(0, 65536)}, data, data)
	checkSpread(t, "MaxBytes in two", mem, []impl.Buf{writes(3, 65533), writes(0, 3)}, data, data[65533:]+data[:65533])
	checkSpread(t, "more than MaxBytes", mem, []impl.Buf{writes(0, 65536)}, data+"x", "")
	checkSpread(t, "more than MaxBytes, and no room", mem, nil, data+"x", "")
	checkSpread(t, "far more room than data", mem, manyBufs(1000, writes(0, 65536)), data, data)
	small := numberedMemory(1)
	checkSpread(t, "more data than room", small, manyBufs(255, writes(0, 256)), data, data[:256])
}

// randomBufs are in memory, and often in one another.
func randomBufs(rng *rand.Rand, whole int64) []impl.Buf {
	bufs := make([]impl.Buf, rng.Intn(9))
	for n := range bufs {
		at := oneOf(rng, 0, whole, rng.Int63n(whole+1), rng.Int63n(min(whole, 50)))
		size := oneOf(rng, 0, whole-at, rng.Int63n(whole-at+1), rng.Int63n(min(whole-at, 20)+1), 1)
		bufs[n] = impl.Buf{At: at, Len: min(size, whole-at), Write: rng.Intn(2) == 0}
	}
	return bufs
}

func TestP18SpreadBufsChangesNothingElse(t *testing.T) {
	rng := rand.New(rand.NewSource(181))
	changed := 0
	for range 8000 {
		mem := randomMemory(rng, 1+rng.Intn(3))
		bufs := randomBufs(rng, int64(len(mem)))
		data := randomMemory(rng, 4)[:oneOf(rng, 0, 1, rng.Int63n(40), rng.Int63n(1025))]
		what := fmt.Sprintf("%+v, data of %d", bufs, len(data))
		got := impl.SpreadBufs(mem, bufs, data)
		want, gathered, left := []byte(mem), "", data
		for _, b := range bufs {
			if !b.Write {
				gathered += mem[b.At : b.At+b.Len]
				continue
			}
			for at := b.At; at < b.At+b.Len && left != ""; at++ {
				want[at], left = left[0], left[1:]
			}
		}
		checkText(t, what, got, string(want))
		checkGathered(t, what, mem, bufs, gathered)
		for at := range int64(len(got)) {
			inRoom := slices.ContainsFunc(bufs, func(b impl.Buf) bool { return b.Write && among(at, b.At, b.At+b.Len-1) })
			if got[at] != mem[at] && !inRoom {
				t.Errorf("%s: the byte at %d is another one", what, at)
			}
		}
		if t.Failed() {
			return
		}
		if got != mem {
			changed++
		}
	}
	// Data that changes nothing would tell nothing.
	if changed < 2000 {
		t.Errorf("but %d memories change", changed)
	}
}

// What was spread into buffers with Write stands there to be gathered by buffers of the same places.
func TestSpreadIsGathered(t *testing.T) {
	rng := rand.New(rand.NewSource(182))
	for range 2000 {
		room, bufs := int64(0), []impl.Buf(nil)
		for at := rng.Int63n(20); at < 512 && len(bufs) < 12; at += rng.Int63n(20) {
			b := writes(at, rng.Int63n(min(60, 513-at)))
			bufs = append(bufs, b)
			at += b.Len
			room += b.Len
		}
		rng.Shuffle(len(bufs), func(i, j int) { bufs[i], bufs[j] = bufs[j], bufs[i] })
		data := randomMemory(rng, 4)[:room]
		mem := impl.SpreadBufs(numberedMemory(2), bufs, data)
		for at := range bufs {
			bufs[at].Write = false
		}
		checkGathered(t, fmt.Sprintf("%+v", bufs), mem, bufs, data)
	}
}

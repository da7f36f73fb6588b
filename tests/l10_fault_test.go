package tests

import (
	"fmt"
	"math"
	"testing"

	"loop.example/g00038/impl"
)

func TestConstantsOfQueues(t *testing.T) {
	flags := []int64{impl.DescNext, impl.DescWrite, impl.DescIndirect, impl.DescAvail, impl.DescUsed}
	checkNumbers(t, "flags", flags, []int64{1, 2, 4, 128, 32768})
	checkNumber(t, "MaxQueue", impl.MaxQueue, 16)
}

// wrongMemories are not right; those that are too long are refused as texts are.
func wrongMemories() map[string]string {
	return map[string]string{
		"no memory":             "",
		"a byte":                "\x00",
		"a byte too few":        emptyMemory(4)[1:],
		"a byte too many":       emptyMemory(4) + "\x00",
		"a word too many":       emptyMemory(4) + "\x00\x00\x00\x00",
		"half a frame too many": emptyMemory(4) + emptyMemory(1)[:128],
	}
}

func longMemories() []string {
	return []string{emptyMemory(256) + "\x00", emptyMemory(257)}
}

// checkQueue asks QueueFault, and every call that takes a queue, which refuse a wrong one ahead of what they look for.
func checkQueue(t *testing.T, what string, mem string, q impl.Queue, right bool) {
	t.Helper()
	if plainQueueRight(mem, q) != right {
		t.Errorf("%s: the plain one does not say so", what)
	}
	if right {
		checkNumber(t, what+": QueueFault", impl.QueueFault(mem, q), impl.OK)
		checkChain(t, what, mem, q, 0)
		checkTake(t, what, mem, q)
		checkNumber(t, what+": GiveChain", checkGive(t, what, mem, q, 0, 1).Code, impl.OK)
		checkNumber(t, what+": PostChain", checkPost(t, what, mem, q, 0, make([]impl.Buf, 1)).Code, impl.OK)
		return
	}
	checkNumber(t, what+": QueueFault", impl.QueueFault(mem, q), impl.ErrForm)
	code := plainQueueCode(mem, false)
	checkAlike(t, what+": ReadChain", impl.ReadChain(mem, q, 0), impl.Chain{Code: code})
	checkAlike(t, what+": TakeChain", impl.TakeChain(mem, q), impl.TakenChain{Code: code})
	checkGiven(t, what+": GiveChain", impl.GiveChain(mem, q, 0, 1), impl.GivenChain{Code: code})
	checkGiven(t, what+": PostChain", impl.PostChain(mem, q, 0, make([]impl.Buf, 1)), impl.GivenChain{Code: code})
}

func TestQueuesOfWrongMemories(t *testing.T) {
	for what, mem := range wrongMemories() {
		checkQueue(t, what, mem, rowQueue(1), false)
		checkQueue(t, what+", all at 0", mem, impl.Queue{Size: 4}, false)
	}
	for _, mem := range longMemories() {
		checkQueue(t, "too long", mem, rowQueue(4), false)
		checkQueue(t, "too long, and a wrong queue", mem, impl.Queue{}, false)
		checkNumber(t, "too long, and a wrong head", impl.ReadChain(mem, rowQueue(4), 9).Code, impl.ErrSize)
		checkNumber(t, "too long, and a wrong size", impl.GiveChain(mem, rowQueue(4), 0, -1).Code, impl.ErrSize)
		checkNumber(t, "too long, and no bufs", impl.PostChain(mem, rowQueue(4), 0, nil).Code, impl.ErrSize)
	}
	for _, frames := range []int{1, 2, 256} {
		checkQueue(t, fmt.Sprintf("%d frames", frames), emptyMemory(frames), rowQueue(4), true)
	}
}

func TestQueueSizes(t *testing.T) {
	mem := emptyMemory(4)
	rights := map[int64]bool{1: true, 2: true, 4: true, 8: true, 16: true}
	sizes := []int64{32, 64, 256, 65536, 1 << 32, -16, math.MinInt64, math.MinInt64 + 1, math.MaxInt64, math.MaxInt64 - 3, 1 << 62, 1 << 60}
	for size := int64(-3); size <= 20; size++ {
		sizes = append(sizes, size)
	}
	for _, size := range sizes {
		checkQueue(t, fmt.Sprintf("Size %d", size), mem, impl.Queue{Size: size}, rights[size])
	}
	for size := range rights {
		checkQueue(t, fmt.Sprintf("a row of Size %d", size), mem, rowQueue(size), true)
		checkNumber(t, "the row's end", rowEnd(size), rowQueue(size).Used+8+8*size)
	}
}

// wrongTablePlaces are none of a table of that many bytes in a memory of whole bytes.
func wrongTablePlaces(whole int64, bytes int64) []int64 {
	places := []int64{
		-4, -1, -bytes, 1, 2, 3, 6, whole - bytes + 4, whole - bytes + 1, whole - bytes + 2, whole - 4, whole, whole + 4,
		1 << 32, 1 << 62, math.MaxInt64, math.MaxInt64 - 3, math.MaxInt64 - 7, math.MaxInt64 - bytes, math.MinInt64, math.MinInt64 + 4, math.MinInt64 + bytes,
	}
	return append(places, math.MaxInt64-bytes+1, math.MinInt64+whole-bytes)
}

func TestPlacesOfTables(t *testing.T) {
	for _, size := range []int64{1, 2, 4, 8, 16} {
		mem := emptyMemory(2)
		q := rowQueue(size)
		for name, table := range map[string]struct {
			place *int64
			bytes int64
		}{"Desc": {&q.Desc, 16 * size}, "Avail": {&q.Avail, 8 + 4*size}, "Used": {&q.Used, 8 + 8*size}} {
			own := *table.place
			for _, place := range []int64{0, 4, own, 508 - table.bytes, 512 - table.bytes} {
				*table.place = place
				checkQueue(t, fmt.Sprintf("Size %d, %s at %d", size, name, place), mem, q, true)
			}
			for _, place := range wrongTablePlaces(512, table.bytes) {
				*table.place = place
				checkQueue(t, fmt.Sprintf("Size %d, %s at %d", size, name, place), mem, q, false)
			}
			*table.place = own
		}
	}
}

func TestTakenAndGiven(t *testing.T) {
	mem := emptyMemory(2)
	rights := map[int64]bool{0: true, 1: true, 65534: true, 65535: true}
	for _, count := range []int64{-1, 0, 1, 65534, 65535, 65536, 65537, 1 << 32, math.MinInt64, math.MaxInt64} {
		q := rowQueue(4)
		q.Taken = count
		checkQueue(t, fmt.Sprintf("Taken %d", count), mem, q, rights[count])
		q.Taken, q.Given = 0, count
		checkQueue(t, fmt.Sprintf("Given %d", count), mem, q, rights[count])
		q.Taken = count
		checkQueue(t, fmt.Sprintf("Taken and Given %d", count), mem, q, rights[count])
	}
}

// checkPacked asks PackedFault, and both calls that take a packed queue.
func checkPacked(t *testing.T, what string, mem string, p impl.Packed, right bool) {
	t.Helper()
	if plainPackedRight(mem, p) != right {
		t.Errorf("%s: the plain one does not say so", what)
	}
	if right {
		checkNumber(t, what+": PackedFault", impl.PackedFault(mem, p), impl.OK)
		checkTakePacked(t, what, mem, p)
		checkNumber(t, what+": GivePacked", checkGivePacked(t, what, mem, p, 1, 2, 1).Code, impl.OK)
		return
	}
	checkNumber(t, what+": PackedFault", impl.PackedFault(mem, p), impl.ErrForm)
	code := plainQueueCode(mem, false)
	checkAlike(t, what+": TakePacked", impl.TakePacked(mem, p), impl.TakenPacked{Code: code})
	checkGivenPacked(t, what+": GivePacked", impl.GivePacked(mem, p, 1, 2, 1), impl.GivenPacked{Code: code})
}

func TestPackedFault(t *testing.T) {
	for what, mem := range wrongMemories() {
		checkPacked(t, what, mem, impl.Packed{Size: 1}, false)
	}
	for _, mem := range longMemories() {
		checkPacked(t, "too long", mem, impl.Packed{Size: 4}, false)
		checkPacked(t, "too long, and a wrong queue", mem, impl.Packed{}, false)
		checkNumber(t, "too long, and a wrong id", impl.GivePacked(mem, impl.Packed{Size: 4}, -1, 0, 1).Code, impl.ErrSize)
	}
	checkPacked(t, "all of a memory", emptyMemory(1), impl.Packed{Size: 16, At: 15, Wrap: true}, true)
	checkPacked(t, "the longest memory", emptyMemory(256), impl.Packed{Size: 16, Ring: 65536 - 256}, true)
	mem := emptyMemory(2)
	for size := int64(-3); size <= 34; size++ {
		checkPacked(t, fmt.Sprintf("Size %d", size), mem, impl.Packed{Size: size}, among(size, 1, 16))
	}
	for _, size := range []int64{math.MinInt64, math.MaxInt64, 1 << 60, 1 << 62, 1<<60 + 1, 1 << 32} {
		checkPacked(t, fmt.Sprintf("Size %d", size), mem, impl.Packed{Size: size}, false)
	}
	for size := int64(1); size <= 16; size++ {
		for _, ring := range []int64{0, 4, 508 - 16*size, 512 - 16*size} {
			checkPacked(t, fmt.Sprintf("Size %d, Ring at %d", size, ring), mem, impl.Packed{Size: size, Ring: ring}, true)
		}
		for _, ring := range wrongTablePlaces(512, 16*size) {
			checkPacked(t, fmt.Sprintf("Size %d, Ring at %d", size, ring), mem, impl.Packed{Size: size, Ring: ring}, false)
		}
		for _, at := range []int64{-1, 0, size - 1, size, size + 1, -size, 65536, math.MinInt64, math.MaxInt64} {
			checkPacked(t, fmt.Sprintf("Size %d, At %d", size, at), mem, impl.Packed{Size: size, At: at}, among(at, 0, size-1))
		}
	}
}

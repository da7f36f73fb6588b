package tests

import (
	"encoding/binary"
	"fmt"
	"math/rand"
	"slices"
	"testing"

	"loop.example/g00038/impl"
)

const (
	next     = impl.DescNext
	write    = impl.DescWrite
	indirect = impl.DescIndirect
)

// desc is a descriptor as a test writes it down.
type desc struct{ place, length, flags, number int64 }

// withDescs puts descriptors into a memory by another way than the program's own.
func withDescs(mem string, at int64, descs ...desc) string {
	bytes := []byte(mem)
	for n, d := range descs {
		for i, word := range []int64{d.place, d.length, d.flags, d.number} {
			binary.LittleEndian.PutUint32(bytes[at+16*int64(n)+4*int64(i):], uint32(word))
		}
	}
	return string(bytes)
}

func descAt(mem string, at int64) desc {
	return desc{wordAt(mem, at), wordAt(mem, at+4), wordAt(mem, at+8), wordAt(mem, at+12)}
}

// rowQueue has its three tables one behind the other, from the beginning of memory on.
func rowQueue(size int64) impl.Queue {
	return impl.Queue{Size: size, Desc: 0, Avail: 16 * size, Used: 20*size + 8}
}

// rowEnd is where the tables of a rowQueue end.
func rowEnd(size int64) int64 { return 28*size + 16 }

func within(mem string, at int64, size int64) bool {
	whole := int64(len(mem))
	return among(at, 0, whole) && among(size, 0, whole) && at+size <= whole
}

func plainMemRight(mem string) bool { return len(mem)%256 == 0 && len(mem) > 0 && len(mem) <= 65536 }

// plainQueueRight is what chapter 11 says of QueueFault, said once more.
func plainQueueRight(mem string, q impl.Queue) bool {
	if !slices.Contains([]int64{1, 2, 4, 8, 16}, q.Size) || !plainMemRight(mem) {
		return false
	}
	right := q.Desc%4 == 0 && q.Avail%4 == 0 && q.Used%4 == 0
	right = right && within(mem, q.Desc, 16*q.Size) && within(mem, q.Avail, 8+4*q.Size) && within(mem, q.Used, 8+8*q.Size)
	return right && among(q.Taken, 0, 65535) && among(q.Given, 0, 65535)
}

func plainPackedRight(mem string, p impl.Packed) bool {
	right := plainMemRight(mem) && among(p.Size, 1, 16) && p.Ring%4 == 0
	return right && within(mem, p.Ring, 16*p.Size) && among(p.At, 0, p.Size-1)
}

// plainQueueCode is what is refused of a memory and a queue ahead of what a call looks for.
func plainQueueCode(mem string, right bool) int64 {
	if len(mem) > 65536 {
		return impl.ErrSize
	}
	if !right {
		return impl.ErrForm
	}
	return impl.OK
}

// plainBufCode is what both kinds of queues say of a buffer behind others.
func plainBufCode(mem string, ahead []impl.Buf, b impl.Buf) int64 {
	if !within(mem, b.At, b.Len) {
		return impl.ErrSize
	}
	if !b.Write && slices.ContainsFunc(ahead, func(a impl.Buf) bool { return a.Write }) {
		return impl.ErrState
	}
	return impl.OK
}

func bufOf(d desc) impl.Buf {
	return impl.Buf{At: d.place, Len: d.length, Write: d.flags/2%2 == 1}
}

// plainTableCode is what is wrong with a descriptor that leads to an indirect table.
func plainTableCode(mem string, d desc, inner bool) int64 {
	lengths := []int64{16, 32, 48, 64, 80, 96, 112, 128, 144, 160, 176, 192, 208, 224, 240, 256}
	if inner || d.flags%2 == 1 || !slices.Contains(lengths, d.length) || d.place%4 != 0 {
		return impl.ErrSyntax
	}
	if !within(mem, d.place, d.length) {
		return impl.ErrSize
	}
	return impl.OK
}

// plainReadChain is what chapter 11 says of ReadChain, said once more: the descriptors are counted down in their table.
func plainReadChain(mem string, q impl.Queue, head int64) impl.Chain {
	code := plainQueueCode(mem, plainQueueRight(mem, q) && among(head, 0, q.Size-1))
	if code != impl.OK {
		return impl.Chain{Code: code}
	}
	table, size, left, number, inner := q.Desc, q.Size, q.Size, head, false
	var bufs []impl.Buf
	for {
		if number >= size {
			return impl.Chain{Code: impl.ErrNone}
		}
		if left == 0 {
			return impl.Chain{Code: impl.ErrConflict}
		}
		left--
		d := descAt(mem, table+16*number)
		leads := d.flags/4%2 == 1
		if leads {
			code = plainTableCode(mem, d, inner)
			table, size, left, number, inner = d.place, d.length/16, d.length/16, 0, true
		} else {
			code = plainBufCode(mem, bufs, bufOf(d))
			bufs = append(bufs, bufOf(d))
			number = d.number
		}
		if code != impl.OK {
			return impl.Chain{Code: code}
		}
		if !leads && d.flags%2 == 0 {
			return impl.Chain{Bufs: bufs}
		}
	}
}

func plainTakeChain(mem string, q impl.Queue) impl.TakenChain {
	code := plainQueueCode(mem, plainQueueRight(mem, q))
	if code != impl.OK {
		return impl.TakenChain{Code: code}
	}
	available := int64(uint16(wordAt(mem, q.Avail+4)) - uint16(q.Taken))
	if available == 0 {
		return impl.TakenChain{Code: impl.ErrNone}
	}
	if available > q.Size {
		return impl.TakenChain{Code: impl.ErrLimit}
	}
	head := wordAt(mem, q.Avail+8+4*(q.Taken%q.Size))
	chain := plainReadChain(mem, q, head)
	q.Taken = int64(uint16(q.Taken) + 1)
	return impl.TakenChain{Code: chain.Code, Head: head, Bufs: chain.Bufs, Queue: q}
}

func isPlainWord(n int64) bool { return among(n, 0, 4294967295) }

func plainGiveChain(mem string, q impl.Queue, head int64, size int64) impl.GivenChain {
	code := plainQueueCode(mem, plainQueueRight(mem, q) && among(head, 0, q.Size-1) && isPlainWord(size))
	if code != impl.OK {
		return impl.GivenChain{Code: code}
	}
	mem = withWord(mem, q.Used+8+8*(q.Given%q.Size), head)
	mem = withWord(mem, q.Used+12+8*(q.Given%q.Size), size)
	q.Given = int64(uint16(q.Given) + 1)
	mem = withWord(mem, q.Used+4, q.Given)
	return impl.GivenChain{Mem: mem, Queue: q, Signal: mem[q.Avail]%2 == 0}
}

func plainPostChain(mem string, q impl.Queue, first int64, bufs []impl.Buf) impl.GivenChain {
	count := int64(len(bufs))
	right := plainQueueRight(mem, q) && among(first, 0, q.Size-1) && among(count, 1, q.Size)
	for _, b := range bufs {
		right = right && isPlainWord(b.At) && isPlainWord(b.Len)
	}
	code := plainQueueCode(mem, right)
	if count > 1000 {
		code = impl.ErrSize
	}
	if code != impl.OK {
		return impl.GivenChain{Code: code}
	}
	for i, b := range bufs {
		d := desc{place: b.At, length: b.Len}
		if b.Write {
			d.flags = 2
		}
		if i+1 < len(bufs) {
			d.flags, d.number = d.flags+1, (first+int64(i)+1)%q.Size
		}
		mem = withDescs(mem, q.Desc+16*((first+int64(i))%q.Size), d)
	}
	made := wordAt(mem, q.Avail+4) % 65536
	mem = withWord(mem, q.Avail+8+4*(made%q.Size), first)
	mem = withWord(mem, q.Avail+4, (made+1)%65536)
	return impl.GivenChain{Mem: mem, Queue: q}
}

// plainTakePacked is what chapter 11 says of TakePacked, said once more.
func plainTakePacked(mem string, p impl.Packed) impl.TakenPacked {
	code := plainQueueCode(mem, plainPackedRight(mem, p))
	if code != impl.OK {
		return impl.TakenPacked{Code: code}
	}
	flags := descAt(mem, p.Ring+16*p.At).flags
	if (flags/128%2 == 1) != p.Wrap || (flags/32768%2 == 1) == p.Wrap {
		return impl.TakenPacked{Code: impl.ErrNone}
	}
	var bufs []impl.Buf
	for at := p.At; ; at++ {
		if at == p.At+p.Size {
			return impl.TakenPacked{Code: impl.ErrConflict}
		}
		d := descAt(mem, p.Ring+16*(at%p.Size))
		if d.flags/4%2 == 1 {
			return impl.TakenPacked{Code: impl.ErrSyntax}
		}
		code = plainBufCode(mem, bufs, bufOf(d))
		if code != impl.OK {
			return impl.TakenPacked{Code: code}
		}
		bufs = append(bufs, bufOf(d))
		if d.flags%2 == 0 {
			return impl.TakenPacked{Id: d.number % 65536, Count: at - p.At + 1, Bufs: bufs}
		}
	}
}

func plainGivePacked(mem string, p impl.Packed, id int64, size int64, count int64) impl.GivenPacked {
	right := plainPackedRight(mem, p) && among(id, 0, 65535) && isPlainWord(size) && among(count, 1, p.Size)
	code := plainQueueCode(mem, right)
	if code != impl.OK {
		return impl.GivenPacked{Code: code}
	}
	d := desc{length: size, number: id}
	if p.Wrap {
		d.flags = 32768 + 128
	}
	mem = withDescs(mem, p.Ring+16*p.At, d)
	if p.At+count >= p.Size {
		p.Wrap = !p.Wrap
	}
	p.At = (p.At + count) % p.Size
	return impl.GivenPacked{Mem: mem, Packed: p}
}

func checkChain(t *testing.T, what string, mem string, q impl.Queue, head int64) impl.Chain {
	t.Helper()
	got := impl.ReadChain(mem, q, head)
	checkAlike(t, what+": ReadChain", got, plainReadChain(mem, q, head))
	return got
}

func checkTake(t *testing.T, what string, mem string, q impl.Queue) impl.TakenChain {
	t.Helper()
	got := impl.TakeChain(mem, q)
	checkAlike(t, what+": TakeChain", got, plainTakeChain(mem, q))
	return got
}

// checkMemory tells no more than where memories are unlike.
func checkMemory(t *testing.T, what string, got string, want string) {
	t.Helper()
	if got != want {
		t.Errorf("%s: the memory (of %d bytes, wanted %d) is another one at %d", what, len(got), len(want), firstUnlike(got, want))
	}
}

func checkGiven(t *testing.T, what string, got impl.GivenChain, want impl.GivenChain) {
	t.Helper()
	checkMemory(t, what, got.Mem, want.Mem)
	got.Mem, want.Mem = "", ""
	checkAlike(t, what, got, want)
}

func checkGive(t *testing.T, what string, mem string, q impl.Queue, head int64, size int64) impl.GivenChain {
	t.Helper()
	got := impl.GiveChain(mem, q, head, size)
	checkGiven(t, what+": GiveChain", got, plainGiveChain(mem, q, head, size))
	return got
}

func checkPost(t *testing.T, what string, mem string, q impl.Queue, first int64, bufs []impl.Buf) impl.GivenChain {
	t.Helper()
	asked := slices.Clone(bufs)
	got := impl.PostChain(mem, q, first, bufs)
	checkGiven(t, what+": PostChain", got, plainPostChain(mem, q, first, asked))
	checkAlike(t, what+": the bufs handed in", bufs, asked)
	return got
}

func checkTakePacked(t *testing.T, what string, mem string, p impl.Packed) impl.TakenPacked {
	t.Helper()
	got := impl.TakePacked(mem, p)
	checkAlike(t, what+": TakePacked", got, plainTakePacked(mem, p))
	return got
}

func checkGivenPacked(t *testing.T, what string, got impl.GivenPacked, want impl.GivenPacked) {
	t.Helper()
	checkMemory(t, what, got.Mem, want.Mem)
	got.Mem, want.Mem = "", ""
	checkAlike(t, what, got, want)
}

func checkGivePacked(t *testing.T, what string, mem string, p impl.Packed, id int64, size int64, count int64) impl.GivenPacked {
	t.Helper()
	got := impl.GivePacked(mem, p, id, size, count)
	checkGivenPacked(t, what+": GivePacked", got, plainGivePacked(mem, p, id, size, count))
	return got
}

func oneOf(rng *rand.Rand, numbers ...int64) int64 { return numbers[rng.Intn(len(numbers))] }

// randomDesc leads mostly to what is in memory, and a little beyond what there may be.
func randomDesc(rng *rand.Rand, size int64, mem int64, flags int64) desc {
	d := desc{place: 4 * rng.Int63n(mem/4), length: 16 * rng.Int63n(8), flags: flags, number: rng.Int63n(size)}
	switch rng.Intn(30) {
	case 0:
		d.place = oneOf(rng, mem-d.length, mem-d.length+1, mem, mem+4, d.place+1, d.place+2, 1<<32-d.length, 1<<32-1)
	case 1:
		d.length = oneOf(rng, 0, 1, 8, 256, 272, 288, mem, mem+16, 1<<32-16, 1<<32-1, 1<<32-d.place)
	case 2:
		d.number = oneOf(rng, size, size+1, 15, 16, 1<<31, 1<<32-1, 65536)
	}
	return d
}

// randomFlags are Write mostly for descriptors behind others, so that many chains have no code.
func randomFlags(rng *rand.Rand, behind bool) int64 {
	flags := oneOf(rng, 0, 0, 0, 128, 32768, 8, 1<<31)
	if rng.Intn(8) > 0 {
		flags |= next
	}
	if behind != (rng.Intn(20) == 0) {
		flags |= write
	}
	if rng.Intn(12) == 0 {
		flags |= indirect
		if rng.Intn(4) > 0 {
			flags &^= next
		}
	}
	return flags
}

// randomSplit is a queue somewhere in a memory in which descriptors stand nearly everywhere.
func randomSplit(rng *rand.Rand) (string, impl.Queue) {
	mem := emptyMemory(1 + rng.Intn(4))
	size, whole := int64(1)<<rng.Intn(5), int64(len(mem))
	place := func(bytes int64) int64 { return 4 * rng.Int63n((whole-bytes+4)/4) }
	q := impl.Queue{Size: size, Desc: place(16 * size), Avail: place(8 + 4*size), Used: place(8 + 8*size)}
	q.Taken, q.Given = oneOf(rng, 0, 1, 7, 65534, 65535, rng.Int63n(65536)), oneOf(rng, 0, 1, 7, 65534, 65535, rng.Int63n(65536))
	order, even, reads := rng.Int63n(5), q.Desc%16, rng.Int63n(size+1)
	var descs []desc
	for n := range (whole - even) / 16 {
		number := n - q.Desc/16
		d := randomDesc(rng, size, whole, randomFlags(rng, (number%size+size)%size >= reads))
		if rng.Int63n(4) < order {
			d.number = min(max(number, 0), 15) + 1
		}
		if d.flags&indirect != 0 && rng.Intn(3) > 0 {
			d.place = d.place&^15 + even
		}
		descs = append(descs, d)
	}
	mem = withDescs(mem, even, descs...)
	mem = withWord(mem, q.Avail+4, q.Taken+rng.Int63n(size+2)+65536*rng.Int63n(2))
	mem = withWord(mem, q.Avail+8+4*(q.Taken%size), rng.Int63n(size+size/8))
	return mem, q
}

func TestSplitQueuesAgainstThePlainOnes(t *testing.T) {
	rng := rand.New(rand.NewSource(101))
	read, taken := map[int64]int{}, map[int64]int{}
	longest := 0
	for range 40000 {
		mem, q := randomSplit(rng)
		what := fmt.Sprintf("%x, %+v", mem, q)
		chain := checkChain(t, what, mem, q, rng.Int63n(q.Size))
		take := checkTake(t, what, mem, q)
		checkGive(t, what, mem, q, rng.Int63n(q.Size+1), oneOf(rng, 0, 9, 1<<32-1, 1<<32))
		checkPost(t, what, mem, q, rng.Int63n(q.Size+1), make([]impl.Buf, rng.Int63n(q.Size+2)))
		if t.Failed() {
			return
		}
		read[chain.Code]++
		taken[take.Code]++
		longest = max(longest, len(chain.Bufs))
	}
	// Chains that all have one code would tell nothing.
	for _, code := range []int64{impl.OK, impl.ErrSize, impl.ErrSyntax, impl.ErrNone, impl.ErrState, impl.ErrConflict} {
		if read[code] < 300 || taken[code] < 100 {
			t.Errorf("code %d is answered but %d and %d times", code, read[code], taken[code])
		}
	}
	if taken[impl.ErrLimit] < 100 || taken[impl.ErrForm] < 100 || longest < 10 {
		t.Errorf("ErrLimit and ErrForm are answered but %d and %d times, the longest chain has but %d", taken[impl.ErrLimit], taken[impl.ErrForm], longest)
	}
}

// randomRing is a ring whose first descriptor is available more often than not.
func randomRing(rng *rand.Rand) (string, impl.Packed) {
	mem := emptyMemory(1 + rng.Intn(2))
	whole := int64(len(mem))
	p := impl.Packed{Size: 1 + rng.Int63n(16), Wrap: rng.Intn(2) == 0}
	p.Ring, p.At = 4*rng.Int63n((whole-16*p.Size+4)/4), rng.Int63n(p.Size)
	reads := rng.Int63n(p.Size + 1)
	for n := range p.Size {
		flags := randomFlags(rng, (n-p.At+p.Size)%p.Size >= reads) &^ (128 | 32768)
		if rng.Intn(4) > 0 {
			flags &^= indirect
		}
		if p.Wrap {
			flags |= 128
		} else {
			flags |= 32768
		}
		d := randomDesc(rng, p.Size, whole, flags^oneOf(rng, 0, 0, 0, 0, 128, 32768, 128+32768))
		d.number = rng.Int63n(1 << 32)
		mem = withDescs(mem, p.Ring+16*n, d)
	}
	return mem, p
}

func TestPackedQueuesAgainstThePlainOnes(t *testing.T) {
	rng := rand.New(rand.NewSource(102))
	codes := map[int64]int{}
	around := 0
	for range 40000 {
		mem, p := randomRing(rng)
		what := fmt.Sprintf("%x, %+v", mem, p)
		take := checkTakePacked(t, what, mem, p)
		id, count := rng.Int63n(65538)-1, rng.Int63n(p.Size+2)
		checkGivePacked(t, what, mem, p, id, oneOf(rng, -1, 0, 77, 1<<32-1, 1<<32), count)
		if t.Failed() {
			return
		}
		codes[take.Code]++
		if p.At+take.Count > p.Size {
			around++
		}
	}
	for _, code := range []int64{impl.OK, impl.ErrSize, impl.ErrSyntax, impl.ErrNone, impl.ErrState, impl.ErrConflict} {
		if codes[code] < 300 {
			t.Errorf("code %d is answered but %d times", code, codes[code])
		}
	}
	if around < 300 {
		t.Errorf("but %d chains go around the ring", around)
	}
}

package tests

import (
	"fmt"
	"math"
	"math/rand"
	"slices"
	"testing"

	"loop.example/g00038/impl"
)

// changedPlaces are the words of a memory that another one does not have, as place and word in turn.
func changedPlaces(t *testing.T, was string, is string) []int64 {
	t.Helper()
	if len(was) != len(is) {
		t.Errorf("a memory of %d bytes became one of %d", len(was), len(is))
		return nil
	}
	var places []int64
	for at := int64(0); at < int64(len(was)); at += 4 {
		if wordAt(was, at) != wordAt(is, at) {
			places = append(places, at, wordAt(is, at))
		}
	}
	return places
}

func TestChainsGoBack(t *testing.T) {
	mem := filledMemory(2)
	q := rowQueue(4)
	for _, given := range []int64{0, 1, 2, 3, 4, 32769, 65531, 65534, 65535} {
		for _, head := range []int64{0, 3} {
			for _, size := range []int64{0, 1, 512, 1 << 31, 1<<32 - 1} {
				q.Given, q.Taken = given, 77
				what := fmt.Sprintf("Given %d, head %d, size %d", given, head, size)
				got := checkGive(t, what, mem, q, head, size)
				pair := q.Used + 8 + 8*(given%4)
				checkNumbers(t, what, changedPlaces(t, mem, got.Mem), slices.Concat(
					[]int64{q.Used + 4, (given + 1) % 65536}, []int64{pair, head, pair + 4, size}))
				want := q
				want.Given = (given + 1) % 65536
				checkAlike(t, what, got.Queue, want)
			}
		}
	}
	for _, size := range []int64{1, 2, 8, 16} {
		q = rowQueue(size)
		q.Given = 65536 - size
		got := checkGive(t, "each Size", emptyMemory(2), q, size-1, 3)
		checkNumbers(t, "the first pair", []int64{wordAt(got.Mem, q.Used+8), wordAt(got.Mem, q.Used+12)}, []int64{size - 1, 3})
		q.Given = 65535
		got = checkGive(t, "each Size", emptyMemory(2), q, size-1, 3)
		checkNumbers(t, "the last pair", []int64{wordAt(got.Mem, q.Used+8*size), wordAt(got.Mem, q.Used+8*size+4), got.Queue.Given}, []int64{size - 1, 3, 0})
	}
}

func TestWhatDoesNotGoBack(t *testing.T) {
	mem := emptyMemory(2)
	for _, size := range []int64{1, 2, 4, 8, 16} {
		for _, head := range []int64{-1, size, size + 1, 65536, 1 << 32, math.MinInt64, math.MaxInt64} {
			checkGiven(t, fmt.Sprintf("Size %d, head %d", size, head), checkGive(t, "head", mem, rowQueue(size), head, 0), impl.GivenChain{Code: impl.ErrForm})
		}
		for _, length := range []int64{-1, 1 << 32, 1<<32 + 1, math.MinInt64, math.MaxInt64} {
			checkGiven(t, fmt.Sprintf("Size %d, a size of %d", size, length), checkGive(t, "size", mem, rowQueue(size), 0, length), impl.GivenChain{Code: impl.ErrForm})
		}
	}
}

func TestSignals(t *testing.T) {
	q := rowQueue(4)
	for flags, signal := range map[int64]bool{0: true, 1: false, 2: true, 3: false, 1<<32 - 1: false, 1<<32 - 2: true, 1 << 8: true, 1<<31 + 1: false} {
		got := checkGive(t, fmt.Sprintf("flags %d", flags), withWord(emptyMemory(2), q.Avail, flags), q, 0, 1)
		checkAlike(t, fmt.Sprintf("flags %d", flags), got.Signal, signal)
	}
}

// The pair, its number ahead of its length, comes ahead of the count, and the flags are asked behind all.
func TestChainsGoBackInTablesThatLieInOneAnother(t *testing.T) {
	mem := emptyMemory(2)
	for what, row := range map[string]struct {
		avail, used, head, size int64
		signal                  bool
	}{
		"the flags are the pair's number":  {108, 100, 1, 4, false},
		"an even number":                   {108, 100, 2, 5, true},
		"the flags are the pair's length":  {112, 100, 2, 5, false},
		"an even length":                   {112, 100, 3, 4, true},
		"the flags are the count":          {104, 100, 2, 4, false},
		"the flags are the first word":     {100, 100, 1, 1, true},
		"the flags are in a pair to come":  {116, 100, 1, 1, true},
		"the count at Avail is the number": {104, 100, 3, 9, false},
	} {
		q := impl.Queue{Size: 4, Avail: row.avail, Used: row.used, Desc: row.used}
		got := checkGive(t, what, mem, q, row.head, row.size)
		checkAlike(t, what, got.Signal, row.signal)
		checkNumbers(t, what, []int64{wordAt(got.Mem, 104), wordAt(got.Mem, 108), wordAt(got.Mem, 112)}, []int64{1, row.head, row.size})
	}
	q := impl.Queue{Size: 4, Avail: 104, Used: 100, Given: 1}
	checkAlike(t, "an even count", checkGive(t, "an even count", mem, q, 1, 1).Signal, true)
	q.Given = 65535
	checkAlike(t, "a count that begins anew", checkGive(t, "a count that begins anew", withWord(mem, 104, 1), q, 1, 1).Signal, true)
}

func TestPostedDescriptors(t *testing.T) {
	mem := filledMemory(2)
	q := rowQueue(4)
	mem = withWord(mem, q.Avail+4, 6)
	got := checkPost(t, "one", mem, q, 2, []impl.Buf{writes(300, 5)})
	checkAlike(t, "one", descAt(got.Mem, 32), desc{300, 5, write, 0})
	checkNumbers(t, "one", changedPlaces(t, mem, got.Mem), []int64{32, 300, 36, 5, 40, write, 44, 0, q.Avail + 4, 7, q.Avail + 16, 2})
	got = checkPost(t, "three, around", mem, q, 3, []impl.Buf{reads(300, 5), writes(0, 1<<32-1), writes(1<<32-1, 0)})
	checkAlike(t, "the first", descAt(got.Mem, 48), desc{300, 5, next, 0})
	checkAlike(t, "the second", descAt(got.Mem, 0), desc{0, 1<<32 - 1, next | write, 1})
	checkAlike(t, "the third", descAt(got.Mem, 16), desc{1<<32 - 1, 0, write, 0})
	checkAlike(t, "the one between", descAt(got.Mem, 32), descAt(mem, 32))
	checkNumbers(t, "made available", []int64{wordAt(got.Mem, q.Avail), wordAt(got.Mem, q.Avail+4), wordAt(got.Mem, q.Avail+16)}, []int64{wordAt(mem, q.Avail), 7, 3})
	// What was written first is posted as it is: PostChain asks for no order, and for no place in memory.
	got = checkPost(t, "Write ahead", mem, q, 0, []impl.Buf{writes(1, 2), reads(3, 4)})
	checkAlike(t, "Write ahead", []desc{descAt(got.Mem, 0), descAt(got.Mem, 16)}, []desc{{1, 2, next | write, 1}, {3, 4, 0, 0}})
	q.Taken, q.Given = 5, 9
	got = checkPost(t, "all of them", mem, q, 1, make([]impl.Buf, 4))
	checkAlike(t, "all of them", got.Queue, q)
	checkAlike(t, "all of them", []desc{descAt(got.Mem, 16), descAt(got.Mem, 32), descAt(got.Mem, 48), descAt(got.Mem, 0)}, []desc{{0, 0, next, 2}, {0, 0, next, 3}, {0, 0, next, 0}, {}})
	one := checkPost(t, "Size 1", emptyMemory(1), rowQueue(1), 0, []impl.Buf{reads(7, 8)})
	checkAlike(t, "Size 1", descAt(one.Mem, 0), desc{7, 8, 0, 0})
}

func TestTheCountOfPosts(t *testing.T) {
	for _, size := range []int64{1, 2, 4, 8, 16} {
		q := rowQueue(size)
		for _, count := range []int64{0, 1, size - 1, size, 32767, 65534, 65535, 65536, 65537, 131071, 1 << 31, 1<<32 - 1} {
			mem := withWord(emptyMemory(2), q.Avail+4, count)
			what := fmt.Sprintf("Size %d, count %d", size, count)
			got := checkPost(t, what, mem, q, size-1, []impl.Buf{reads(1, 1)})
			checkNumbers(t, what, []int64{wordAt(got.Mem, q.Avail+4), wordAt(got.Mem, q.Avail+8+4*(count%size))}, []int64{(count + 1) % 65536, size - 1})
		}
	}
}

func TestWhatIsNotPosted(t *testing.T) {
	mem := emptyMemory(2)
	refused := func(what string, q impl.Queue, first int64, bufs []impl.Buf, code int64) {
		t.Helper()
		checkGiven(t, what, checkPost(t, what, mem, q, first, bufs), impl.GivenChain{Code: code})
	}
	for _, size := range []int64{1, 2, 4, 8, 16} {
		q := rowQueue(size)
		for _, first := range []int64{-1, size, size + 1, 65536, math.MinInt64, math.MaxInt64} {
			refused(fmt.Sprintf("first %d", first), q, first, make([]impl.Buf, 1), impl.ErrForm)
		}
		refused("no bufs", q, 0, nil, impl.ErrForm)
		refused("an empty list", q, 0, []impl.Buf{}, impl.ErrForm)
		refused("one too many", q, 0, make([]impl.Buf, size+1), impl.ErrForm)
		refused("MaxList", q, 0, make([]impl.Buf, 1000), impl.ErrForm)
		refused("more than MaxList", q, 0, make([]impl.Buf, 1001), impl.ErrSize)
		refused("more than MaxList, and a wrong first", q, -1, make([]impl.Buf, 1001), impl.ErrSize)
		refused("more than MaxList, and a wrong queue", impl.Queue{}, 0, make([]impl.Buf, 1001), impl.ErrSize)
		checkNumber(t, "just Size", checkPost(t, "just Size", mem, q, 0, make([]impl.Buf, size)).Code, impl.OK)
		for _, number := range []int64{-1, 1 << 32, 1<<32 + 1, math.MinInt64, math.MaxInt64} {
			for _, wrong := range []impl.Buf{{At: number}, {Len: number}, {At: number, Write: true}, {At: number, Len: number}} {
				bufs := make([]impl.Buf, size)
				bufs[size-1] = wrong
				refused(fmt.Sprintf("%+v", wrong), q, 0, bufs, impl.ErrForm)
				bufs[0], bufs[size-1] = bufs[size-1], bufs[0]
				refused(fmt.Sprintf("%+v ahead", wrong), q, 0, bufs, impl.ErrForm)
			}
		}
		for _, right := range []impl.Buf{reads(0, 0), reads(1<<32-1, 0), reads(0, 1<<32-1), writes(1<<32-1, 1<<32-1)} {
			checkNumber(t, "a word", checkPost(t, "a word", mem, q, size-1, []impl.Buf{right}).Code, impl.OK)
		}
	}
}

// Descriptors come ahead of the count, which is read behind them, and a later descriptor over an earlier one.
func TestPostsInTablesThatLieInOneAnother(t *testing.T) {
	mem := emptyMemory(2)
	q := impl.Queue{Size: 4, Desc: 100, Avail: 96, Used: 300}
	got := checkPost(t, "the count is a buffer's place", mem, q, 0, []impl.Buf{reads(6, 9)})
	checkNumbers(t, "the count is a buffer's place", changedPlaces(t, mem, got.Mem), []int64{100, 7, 104, 9})
	q.Avail = 100
	got = checkPost(t, "the count is a buffer's length", mem, q, 0, []impl.Buf{reads(6, 65535)})
	checkNumbers(t, "the count is a buffer's length", changedPlaces(t, mem, got.Mem), []int64{100, 6})
	got = checkPost(t, "first over a descriptor's length", withWord(mem, 104, 3), q, 2, []impl.Buf{reads(1, 2)})
	checkNumbers(t, "first over a descriptor's length", changedPlaces(t, withWord(mem, 104, 3), got.Mem), []int64{104, 4, 120, 2, 132, 1, 136, 2})
	q.Avail = 108
	got = checkPost(t, "the count is the first one's number", mem, q, 0, []impl.Buf{reads(1, 2), writes(3, 4)})
	checkNumbers(t, "the count is the first one's number", changedPlaces(t, mem, got.Mem), []int64{100, 1, 104, 2, 108, 1, 112, 2, 116, 3, 124, 2})
	rng := rand.New(rand.NewSource(103))
	for range 3000 {
		size := int64(1) << rng.Intn(5)
		q := impl.Queue{Size: size, Desc: 4 * rng.Int63n(20), Avail: 4 * rng.Int63n(60), Used: 4 * rng.Int63n(60), Given: rng.Int63n(65536)}
		bufs := make([]impl.Buf, 1+rng.Int63n(size))
		for at := range bufs {
			bufs[at] = impl.Buf{At: rng.Int63n(40), Len: rng.Int63n(40), Write: rng.Intn(2) == 0}
		}
		what := fmt.Sprintf("%+v, %+v", q, bufs)
		checkPost(t, what, filledMemory(2), q, rng.Int63n(size), bufs)
		checkGive(t, what, filledMemory(2), q, rng.Int63n(size), rng.Int63n(9))
	}
}

// splitRow lays the tables of a queue apart, in any order, with gaps, and tells how far they go.
func splitRow(rng *rand.Rand, size int64) (impl.Queue, int64) {
	q := impl.Queue{Size: size}
	at := int64(0)
	for _, table := range rng.Perm(3) {
		at += 4 * rng.Int63n(5)
		switch table {
		case 0:
			q.Desc, at = at, at+16*size
		case 1:
			q.Avail, at = at, at+8+4*size
		case 2:
			q.Used, at = at, at+8+8*size
		}
	}
	return q, at
}

// postable are buffers that are in memory, those with Write last; some are at its ends, of length 0, or in the tables.
func postable(rng *rand.Rand, whole int64, count int64) []impl.Buf {
	bufs := make([]impl.Buf, count)
	from := rng.Int63n(count + 1)
	for n := range bufs {
		at := oneOf(rng, 0, whole, rng.Int63n(whole+1), rng.Int63n(whole+1))
		size := oneOf(rng, 0, whole-at, rng.Int63n(whole-at+1), rng.Int63n(whole-at+1))
		bufs[n] = impl.Buf{At: at, Len: size, Write: int64(n) >= from}
	}
	return bufs
}

func randomMemory(rng *rand.Rand, frames int) string {
	bytes := make([]byte, 256*frames)
	rng.Read(bytes)
	return string(bytes)
}

func TestP17PostedBuffersAreTheNextChain(t *testing.T) {
	rng := rand.New(rand.NewSource(171))
	for round := range 6000 {
		size := int64(1) << (round % 5)
		q, _ := splitRow(rng, size)
		q.Taken, q.Given = oneOf(rng, 0, 1, 65534, 65535, rng.Int63n(65536)), rng.Int63n(65536)
		mem := randomMemory(rng, 3)
		mem = withWord(mem, q.Avail+4, q.Taken)
		first, bufs := rng.Int63n(size), postable(rng, int64(len(mem)), 1+rng.Int63n(size))
		asked := slices.Clone(bufs)
		posted := impl.PostChain(mem, q, first, bufs)
		checkAlike(t, "the bufs handed in", bufs, asked)
		want := impl.TakenChain{Head: first, Bufs: asked, Queue: q}
		want.Queue.Taken = (q.Taken + 1) % 65536
		what := fmt.Sprintf("%+v, first %d", q, first)
		checkAlike(t, what, impl.TakeChain(posted.Mem, q), want)
		checkAlike(t, what+": the chain alone", impl.ReadChain(posted.Mem, q, first), impl.Chain{Bufs: asked})
		checkNumber(t, what+": nothing more waits", impl.TakeChain(posted.Mem, want.Queue).Code, impl.ErrNone)
		if t.Failed() {
			return
		}
	}
}

// Chains that are posted, taken and given back one behind the other go past 65535 without an end.
func TestP17RoundsOfAQueue(t *testing.T) {
	rng := rand.New(rand.NewSource(172))
	for _, size := range []int64{1, 2, 4, 8, 16} {
		q, _ := splitRow(rng, size)
		q.Taken, q.Given = 65536-20, 65536-30
		mem := withWord(emptyMemory(3), q.Avail+4, q.Taken)
		for round := range int64(60) {
			first, bufs := round*3%size, postable(rng, 768, 1+rng.Int63n(size))
			mem = impl.PostChain(mem, q, first, bufs).Mem
			taken := impl.TakeChain(mem, q)
			checkAlike(t, fmt.Sprintf("Size %d, round %d", size, round), impl.TakenChain{Code: taken.Code, Head: taken.Head, Bufs: taken.Bufs}, impl.TakenChain{Head: first, Bufs: bufs})
			given := impl.GiveChain(mem, taken.Queue, taken.Head, round)
			pair := q.Used + 8 + 8*((65536-30+round)%size)
			checkNumbers(t, fmt.Sprintf("Size %d, round %d", size, round), []int64{given.Code, wordAt(given.Mem, q.Used+4), wordAt(given.Mem, pair), wordAt(given.Mem, pair+4), given.Queue.Taken, given.Queue.Given},
				[]int64{impl.OK, (65536 - 29 + round) % 65536, first, round, (65536 - 19 + round) % 65536, (65536 - 29 + round) % 65536})
			mem, q = given.Mem, given.Queue
		}
	}
}

// As many chains as a queue has descriptors may wait at once; they are taken in the order in which they were posted.
func TestP17ChainsThatWaitAreTakenInOrder(t *testing.T) {
	for _, size := range []int64{1, 2, 4, 8, 16} {
		for _, taken := range []int64{0, 3, 65536 - size/2, 65535} {
			q := rowQueue(size)
			q.Taken = taken % 65536
			mem := withWord(emptyMemory(4), q.Avail+4, q.Taken)
			for n := range size {
				mem = impl.PostChain(mem, q, size-1-n, []impl.Buf{writes(500+n, n)}).Mem
			}
			for n := range size {
				got := impl.TakeChain(mem, q)
				q.Taken = (q.Taken + 1) % 65536
				checkAlike(t, fmt.Sprintf("Size %d, chain %d", size, n), got, impl.TakenChain{Head: size - 1 - n, Bufs: []impl.Buf{writes(500+n, n)}, Queue: q})
			}
			checkNumber(t, "none is left", impl.TakeChain(mem, q).Code, impl.ErrNone)
		}
	}
}

// A driver that posts the place of a table and puts DescIndirect to it has the table's buffers taken.
func TestP17WithAnIndirectTable(t *testing.T) {
	rng := rand.New(rand.NewSource(173))
	for round := range 600 {
		size, count := int64(1)<<(round%5), 1+rng.Int63n(16)
		q, end := splitRow(rng, size)
		q.Taken = oneOf(rng, 0, 65535, rng.Int63n(65536))
		table := end + 4*rng.Int63n(9)
		mem := withWord(emptyMemory(4), q.Avail+4, q.Taken)
		inner := postable(rng, 1024, count)
		descs := inRow(count, 0, 0)
		for n, b := range inner {
			descs[n].place, descs[n].length = b.At, b.Len
			if b.Write {
				descs[n].flags |= write
			}
		}
		mem = withDescs(mem, table, descs...)
		bufs := append(make([]impl.Buf, rng.Int63n(size)), reads(table, 16*count))
		first := rng.Int63n(size)
		posted := impl.PostChain(mem, q, first, bufs)
		last := (first + int64(len(bufs)) - 1) % size
		got := impl.TakeChain(withWord(posted.Mem, q.Desc+16*last+8, indirect), q)
		checkAlike(t, fmt.Sprintf("Size %d, a table of %d", size, count), []any{got.Code, got.Head, got.Bufs}, []any{0, first, slices.Concat(bufs[:len(bufs)-1], inner)})
	}
}

// What the promise leaves out: buffers that are not in memory, Write ahead, and chains that wait already.
func TestPostsThatAreNotTaken(t *testing.T) {
	q := rowQueue(4)
	q.Taken = 65535
	mem := withWord(emptyMemory(2), q.Avail+4, 65535)
	behind := q
	behind.Taken = 0
	for what, row := range map[string]struct {
		bufs []impl.Buf
		code int64
	}{
		"a byte beyond memory":    {[]impl.Buf{reads(0, 1), reads(500, 13)}, impl.ErrSize},
		"far beyond memory":       {[]impl.Buf{writes(1<<32-1, 1)}, impl.ErrSize},
		"no bytes behind its end": {[]impl.Buf{reads(513, 0)}, impl.ErrSize},
		"Write ahead":             {[]impl.Buf{writes(0, 1), reads(0, 1)}, impl.ErrState},
	} {
		posted := checkPost(t, what, mem, q, 3, row.bufs)
		checkAlike(t, what, checkTake(t, what, posted.Mem, q), impl.TakenChain{Code: row.code, Head: 3, Queue: behind})
	}
	ahead := impl.PostChain(mem, q, 1, []impl.Buf{reads(7, 7)})
	posted := impl.PostChain(ahead.Mem, q, 2, []impl.Buf{reads(8, 8)})
	got := checkTake(t, "one waits", posted.Mem, q)
	checkAlike(t, "one waits", got, impl.TakenChain{Head: 1, Bufs: []impl.Buf{reads(7, 7)}, Queue: behind})
	behind.Taken = 1
	checkAlike(t, "the next one", checkTake(t, "the next one", posted.Mem, got.Queue), impl.TakenChain{Head: 2, Bufs: []impl.Buf{reads(8, 8)}, Queue: behind})
}

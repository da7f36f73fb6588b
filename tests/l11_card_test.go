package tests

import (
	"fmt"
	"math/rand"
	"slices"
	"strings"
	"testing"

	"loop.example/g00038/impl"
)

// ringFrames is a ring of frames made available one behind the other from At on, each a chain of one buffer.
func ringFrames(p impl.Packed, frames ...string) string {
	mem := numberedMemory(24)
	place := int64(1024)
	for n, frame := range frames {
		mem = putText(mem, place, frame)
		driver := p
		driver.At, driver.Wrap = (p.At+int64(n))%p.Size, p.Wrap != (p.At+int64(n) >= p.Size)
		mem = postRing(mem, driver, int64(70+n), []impl.Buf{reads(place, int64(len(frame)))})
		place += int64(len(frame))
	}
	return mem
}

// quietRing has no descriptor that is available.
func quietRing(mem string, p impl.Packed) string {
	return putText(mem, p.Ring, bytes0(int(16*p.Size)))
}

func TestNoFrames(t *testing.T) {
	for size := int64(1); size <= 16; size++ {
		for at := range size {
			for _, wrap := range []bool{false, true} {
				p := impl.Packed{Size: size, Ring: ringAt, At: at, Wrap: wrap}
				mem := quietRing(numberedMemory(2), p)
				what := fmt.Sprintf("%+v", p)
				checkSent(t, what, checkSend(t, what, mem, p), impl.SentFrames{Mem: mem, Packed: p})
			}
		}
	}
}

func TestFramesAreSentInOrder(t *testing.T) {
	texts := []string{"one", "", "three", "4", "fifth", "6", "sieben", "8", "n", "ten", "eleven", "12", "13", "xiv", "15", "the last"}
	for size := int64(1); size <= 16; size++ {
		for at := range size {
			for count := int64(1); count <= size; count++ {
				p := impl.Packed{Size: size, Ring: ringAt, At: at, Wrap: (at+count)%2 == 0}
				what := fmt.Sprintf("%+v, %d frames", p, count)
				mem := ringFrames(p, texts[:count]...)
				if count < size {
					mem = withDescs(mem, ringAt+16*((at+count)%size), desc{})
				}
				got := checkSend(t, what, mem, p)
				after := p
				after.At, after.Wrap = (at+count)%size, p.Wrap != (at+count >= size)
				checkAlike(t, what, []any{got.Code, got.Packed, got.Frames}, []any{0, after, texts[:count]})
				for n := range count {
					flags := int64(0)
					if p.Wrap != (at+n >= size) {
						flags = 128 + 32768
					}
					checkAlike(t, what, descAt(got.Mem, ringAt+16*((at+n)%size)), desc{0, 0, flags, 70 + n})
				}
				checkText(t, what+": behind the ring", got.Mem[ringAt+16*size:], mem[ringAt+16*size:])
				checkText(t, what+": ahead of the ring", got.Mem[:ringAt], mem[:ringAt])
			}
		}
	}
}

func TestFramesOfSeveralBuffers(t *testing.T) {
	mem := putText(numberedMemory(8), 1000, "abcdefghij")
	for at := range int64(8) {
		p := impl.Packed{Size: 8, Ring: ringAt, At: at, Wrap: true}
		what := fmt.Sprintf("At %d", at)
		first := postRing(quietRing(mem, p), p, 5, []impl.Buf{reads(1003, 2), reads(1000, 0), reads(1000, 3)})
		checkAlike(t, what, checkSend(t, what, first, p).Frames, []string{"deabc"})
		behind := p
		behind.At, behind.Wrap = (at+3)%8, at+3 < 8
		second := postRing(first, behind, 6, []impl.Buf{reads(1009, 1), writes(1000, 5), writes(1003, 5)})
		got := checkSend(t, what, second, p)
		checkAlike(t, what+", Write is no part of it", got.Frames, []string{"deabc", "j"})
		checkText(t, what+", nor written to", got.Mem[1000:1010], "abcdefghij")
		// A descriptor behind a chain's first one is left as it is.
		checkAlike(t, what, descAt(got.Mem, ringAt+16*((at+1)%8)), descAt(second, ringAt+16*((at+1)%8)))
		all := postRing(quietRing(mem, p), p, 9, []impl.Buf{writes(1000, 5), writes(0, 2048)})
		checkAlike(t, what+", Write alone", checkSend(t, what, all, p).Frames, []string{""})
	}
}

func TestHowLongFramesAre(t *testing.T) {
	p := impl.Packed{Size: 4, Ring: ringAt, At: 1, Wrap: true}
	long := strings.Repeat("0123456789", 151)
	for size, good := range map[int]bool{0: true, 1: true, 64: true, 1499: true, 1500: true, 1501: false, 1510: false} {
		what := fmt.Sprintf("a frame of %d bytes", size)
		mem := withDescs(ringFrames(p, long[:size]), ringAt+32, desc{})
		got := checkSend(t, what, mem, p)
		if good {
			checkAlike(t, what, []any{got.Code, got.Frames}, []any{0, []string{long[:size]}})
		} else {
			checkSent(t, what, got, impl.SentFrames{Code: impl.ErrState, Mem: mem, Packed: p})
		}
		// Frames ahead of one that is too long are sent, those behind it are not.
		got = checkSend(t, what+" between", ringFrames(p, "ahead", long[:size], "behind"), p)
		if !good {
			checkAlike(t, what+" between", []any{got.Code, got.Frames, got.Packed.At}, []any{impl.ErrState, []string{"ahead"}, 2})
		}
	}
	parts := quietRing(numberedMemory(8), p)
	checkNumber(t, "1501 in parts", checkSend(t, "parts", postRing(parts, p, 0, []impl.Buf{reads(0, 750), reads(3, 751)}), p).Code, impl.ErrState)
	got := checkSend(t, "1500 in parts", postRing(parts, p, 0, []impl.Buf{reads(0, 750), reads(3, 750), writes(0, 2048)}), p)
	checkNumbers(t, "1500 in parts", []int64{got.Code, int64(len(got.Frames)), int64(len(got.Frames[0]))}, []int64{0, 1, 1500})
	whole := withDescs(emptyMemory(256), 0, desc{0, 65536, readyFlags(true), 9})
	checkNumber(t, "all of memory", checkSend(t, "all of memory", whole, impl.Packed{Size: 1, Wrap: true}).Code, impl.ErrState)
	// GatherBufs has nothing of more than MaxBytes bytes: the frame is empty.
	twice := withDescs(emptyMemory(256), 0, desc{0, 65536, readyFlags(true) | next, 9}, desc{0, 1, 0, 8})
	checkAlike(t, "more than MaxBytes", checkSend(t, "more", twice, impl.Packed{Size: 2, Wrap: true}).Frames, []string{""})
}

func TestChainsThatEndTheSending(t *testing.T) {
	p := impl.Packed{Size: 4, Ring: ringAt, At: 2, Wrap: true}
	good := ringFrames(p, "first", "second")
	for what, descs := range map[string][]desc{
		"ErrSyntax":         {{16, 16, indirect, 0}},
		"ErrSyntax, later":  {{1, 1, next, 0}, {16, 16, indirect, 0}},
		"ErrSize":           {{6144, 1, 0, 0}},
		"ErrSize of Write":  {{1, 1, next, 0}, {6143, 2, write, 0}},
		"ErrSize, far away": {{1<<32 - 1, 1<<32 - 1, 0, 0}},
		"ErrState":          {{1, 1, next | write, 0}, {1, 1, 0, 0}},
		"1501 bytes":        {{0, 1501, 0, 0}},
	} {
		for n := range descs {
			descs[n].flags |= readyFlags(false)
		}
		mem := withDescs(good, ringAt, descs...)
		got := checkSend(t, what, mem, p)
		checkAlike(t, what, []any{got.Code, got.Frames, got.Packed}, []any{impl.ErrState, []string{"first", "second"}, impl.Packed{Size: 4, Ring: ringAt}})
		checkText(t, what, got.Mem[ringAt:ringAt+32], mem[ringAt:ringAt+32])
		alone := impl.Packed{Size: 4, Ring: ringAt}
		checkSent(t, what+", alone", checkSend(t, what, mem, alone), impl.SentFrames{Code: impl.ErrState, Mem: mem, Packed: alone})
	}
	for _, size := range []int64{1, 2, 3, 16} {
		p := impl.Packed{Size: size, Ring: ringAt, Wrap: true}
		mem := ringOf(p, inRow(size, next, 0)...)
		checkSent(t, "ErrConflict", checkSend(t, "ErrConflict", mem, p), impl.SentFrames{Code: impl.ErrState, Mem: mem, Packed: p})
	}
	// Behind a chain that went back another one may go on to the descriptor that was put for it: that one is empty.
	round := impl.Packed{Size: 2, Ring: ringAt, At: 1, Wrap: true}
	mem := withDescs(putText(emptyMemory(8), 1000, "abc"), ringAt, desc{1000, 2, readyFlags(false) | next, 3}, desc{1000, 3, readyFlags(true), 4})
	got := checkSend(t, "around", mem, round)
	checkAlike(t, "around", []any{got.Code, got.Frames, got.Packed}, []any{0, []string{"abc", "ab"}, impl.Packed{Size: 2, Ring: ringAt, Wrap: true}})
}

func TestFramesThatLieInTheRing(t *testing.T) {
	p := impl.Packed{Size: 3, Ring: ringAt, Wrap: true}
	mem := withDescs(emptyMemory(2), ringAt, desc{ringAt, 16, readyFlags(true), 5}, desc{ringAt, 32, readyFlags(true), 6}, desc{})
	got := checkSend(t, "in the ring", mem, p)
	back := withDescs(mem, ringAt, desc{0, 0, 128 + 32768, 5})
	checkAlike(t, "in the ring", got.Frames, []string{mem[ringAt : ringAt+16], back[ringAt : ringAt+32]})
}

func TestWhatASendingCardRefuses(t *testing.T) {
	for what, mem := range wrongMemories() {
		checkSent(t, what, checkSend(t, what, mem, impl.Packed{Size: 1}), impl.SentFrames{Code: impl.ErrForm})
	}
	for _, mem := range longMemories() {
		checkSent(t, "too long", checkSend(t, "too long", mem, impl.Packed{Size: 1}), impl.SentFrames{Code: impl.ErrSize})
		checkSent(t, "too long, and a wrong queue", checkSend(t, "too long", mem, impl.Packed{}), impl.SentFrames{Code: impl.ErrSize})
	}
	for _, p := range []impl.Packed{{}, {Size: 17}, {Size: -1}, {Size: 4, At: 4}, {Size: 4, At: -1}, {Size: 4, Ring: 2}, {Size: 4, Ring: 452}, {Size: 4, Ring: -4}} {
		what := fmt.Sprintf("%+v", p)
		checkSent(t, what, checkSend(t, what, emptyMemory(2), p), impl.SentFrames{Code: impl.ErrForm})
	}
}

// A driver and a card that go round a ring for long lose no frame.
func TestManyFramesGoRoundARing(t *testing.T) {
	rng := rand.New(rand.NewSource(115))
	for _, size := range []int64{1, 2, 3, 7, 16} {
		p := impl.Packed{Size: size, Ring: ringAt, Wrap: true}
		mem := putText(randomMemory(rng, 16), 0, bytes0(512))
		for round := range 40 {
			var want []string
			driver := p
			for left := size; left > 0 && rng.Intn(6) > 0; {
				bufs := []impl.Buf{reads(512+rng.Int63n(2000), rng.Int63n(64)), reads(2048, rng.Int63n(1000))}
				bufs = bufs[:min(left, 1+rng.Int63n(2))]
				mem = postRing(mem, driver, rng.Int63n(65536), bufs)
				want = append(want, plainAsked(mem, bufs))
				left -= int64(len(bufs))
				driver.At += int64(len(bufs))
				if driver.At >= size {
					driver.At, driver.Wrap = driver.At-size, !driver.Wrap
				}
			}
			what := fmt.Sprintf("Size %d, round %d", size, round)
			got := checkSend(t, what, mem, p)
			checkAlike(t, what, []any{got.Code, len(got.Frames), got.Packed}, []any{0, len(want), driver})
			checkAlike(t, what, slices.Equal(got.Frames, want), true)
			mem, p = got.Mem, got.Packed
		}
	}
}

// roomFor is a memory with one chain whose buffers these are, in a rowQueue of 4.
func roomFor(bufs ...impl.Buf) string {
	mem := putText(numberedMemory(16), 0, bytes0(128))
	return plainPostChain(mem, rowQueue(4), 0, bufs).Mem
}

func TestFramesThatCome(t *testing.T) {
	q := rowQueue(4)
	after := q
	after.Taken, after.Given = 1, 1
	long := strings.Repeat("0123456789", 150)
	for _, size := range []int{0, 1, 64, 255, 256, 257, 1499, 1500} {
		frame := long[:size]
		for _, more := range []int64{0, 1, 500} {
			what := fmt.Sprintf("a frame of %d, a room of %d more", size, more)
			mem := roomFor(writes(roomAt, int64(size)+more))
			want := impl.Served{Mem: givenBack(putText(mem, roomAt, frame), int64(size)), Queue: after, Count: 1, Signal: true}
			checkServed(t, what, checkReceive(t, what, mem, q, frame), want)
			mem = withWord(mem, q.Avail, 1)
			want.Mem, want.Signal = withWord(want.Mem, q.Avail, 1), false
			checkServed(t, what+", quiet", checkReceive(t, what, mem, q, frame), want)
			mem = roomFor(reads(300, 900), writes(roomAt, int64(size)/3), writes(9, 0), writes(2000, int64(size)-int64(size)/3+more))
			got := checkReceive(t, what+", several buffers", mem, q, frame)
			checkText(t, what+", several buffers", got.Mem[roomAt:roomAt+size/3]+got.Mem[2000:2000+size-size/3], frame)
		}
		if size > 0 {
			for _, room := range [][]impl.Buf{{writes(roomAt, int64(size)-1)}, {reads(300, 3000), writes(roomAt, int64(size)-1)}, {writes(roomAt, int64(size)-1), writes(7, 0)}, {reads(roomAt, int64(size))}} {
				what := fmt.Sprintf("a frame of %d, a room of one byte less", size)
				checkServed(t, what, checkReceive(t, what, roomFor(room...), q, frame), impl.Served{Code: impl.ErrCount})
			}
		}
	}
	checkNumber(t, "no bytes need no room", checkReceive(t, "no bytes", roomFor(reads(300, 5)), q, "").Count, 1)
	twice := checkReceive(t, "in one another", roomFor(writes(roomAt, 4), writes(roomAt+2, 4)), q, "abcdefg")
	checkText(t, "in one another", twice.Mem[roomAt:roomAt+6], "abefg"+numberedMemory(16)[roomAt+5:roomAt+6])
	flags := checkReceive(t, "at the flags", roomFor(writes(q.Avail, 1)), q, "\x01")
	checkAlike(t, "at the flags", []any{flags.Count, flags.Signal}, []any{1, false})
	far := checkReceive(t, "far more room than a frame", withDescs(roomFor(reads(0, 0)), 0, desc{0, 4096, write | next, 1}, desc{0, 4096, write, 0}), q, "abc")
	checkNumbers(t, "far more room than a frame", []int64{far.Code, far.Count}, []int64{0, 1})
}

// The chain behind the first one waits until a further frame comes.
func TestFramesTakeOneChainEach(t *testing.T) {
	for _, taken := range []int64{0, 65534} {
		q := rowQueue(4)
		q.Taken, q.Given = taken, 65535
		mem := withWord(emptyMemory(8), q.Avail+4, taken)
		for n := range int64(4) {
			mem = plainPostChain(mem, q, n, []impl.Buf{writes(1000+10*n, 10)}).Mem
		}
		for n := range int64(4) {
			frame := fmt.Sprintf("frame %d", n)
			got := checkReceive(t, frame, mem, q, frame)
			checkNumbers(t, frame, []int64{got.Code, got.Count, got.Queue.Taken, got.Queue.Given}, []int64{0, 1, (taken + n + 1) % 65536, n})
			checkText(t, frame, got.Mem[1000+10*n:1007+10*n], frame)
			mem, q = got.Mem, got.Queue
		}
		checkServed(t, "no chain is left", checkReceive(t, "none", mem, q, "x"), impl.Served{Code: impl.ErrNone})
	}
}

func TestFramesThatAreNotTaken(t *testing.T) {
	q := rowQueue(4)
	long := strings.Repeat("x", 70000)
	refused := func(what string, mem string, q impl.Queue, frame string, code int64) {
		t.Helper()
		checkServed(t, what, checkReceive(t, what, mem, q, frame), impl.Served{Code: code})
	}
	room := roomFor(writes(roomAt, 3000))
	for _, size := range []int{1501, 1502, 3000, 65535, 65536} {
		refused(fmt.Sprintf("a frame of %d", size), room, q, long[:size], impl.ErrForm)
		refused(fmt.Sprintf("a frame of %d, and no chain", size), emptyMemory(2), q, long[:size], impl.ErrForm)
	}
	for _, size := range []int{65537, 70000} {
		refused(fmt.Sprintf("a frame of %d", size), room, q, long[:size], impl.ErrSize)
		refused(fmt.Sprintf("a frame of %d, and all else wrong", size), "x", impl.Queue{}, long[:size], impl.ErrSize)
	}
	for _, frame := range []string{"", "x"} {
		refused("no chain", emptyMemory(2), q, frame, impl.ErrNone)
		refused("more than Size", withWord(room, q.Avail+4, 5), q, frame, impl.ErrLimit)
		refused("a number that is none", withWord(room, q.Avail+8, 4), q, frame, impl.ErrForm)
		for code, descs := range map[int64][]desc{
			impl.ErrNone:     {{roomAt, 9, write | next, 4}},
			impl.ErrConflict: {{roomAt, 9, write | next, 0}},
			impl.ErrSyntax:   {{roomAt, 9, indirect, 0}},
			impl.ErrSize:     {{4096, 1, write, 0}},
			impl.ErrState:    {{roomAt, 9, write | next, 1}, {roomAt, 9, 0, 0}},
		} {
			refused(fmt.Sprintf("code %d", code), withDescs(room, 0, descs...), q, frame, code)
		}
		for what, mem := range wrongMemories() {
			refused(what, mem, q, frame, impl.ErrForm)
		}
		for _, mem := range longMemories() {
			refused("too long", mem, q, frame, impl.ErrSize)
			refused("too long, and a wrong queue", mem, impl.Queue{}, frame, impl.ErrSize)
		}
		for _, wrong := range []impl.Queue{{}, {Size: 3}, {Size: 4, Desc: 2}, {Size: 4, Avail: -4}, {Size: 4, Used: 4096}, {Size: 4, Taken: 65536}, {Size: 4, Given: -1}} {
			refused(fmt.Sprintf("%+v", wrong), room, wrong, frame, impl.ErrForm)
		}
	}
}

// What one card sends another one receives.
func TestFramesGoFromCardToCard(t *testing.T) {
	p := impl.Packed{Size: 8, Ring: ringAt, At: 5, Wrap: true}
	frames := []string{"a", strings.Repeat("b", 1500), "", "dddd"}
	mem := ringFrames(p, frames...)
	mem = withDescs(mem, ringAt+16, desc{})
	sent := checkSend(t, "sent", mem, p)
	q := rowQueue(4)
	other := emptyMemory(32)
	for n := range int64(4) {
		other = plainPostChain(other, q, n, []impl.Buf{writes(1024+1536*n, 1500)}).Mem
	}
	for n, frame := range sent.Frames {
		got := checkReceive(t, "received", other, q, frame)
		checkText(t, "received", got.Mem[1024+1536*n:1024+1536*n+len(frame)], frames[n])
		other, q = got.Mem, got.Queue
	}
	checkNumber(t, "all of them", q.Given, int64(len(frames)))
	checkAlike(t, "all of them", slices.Equal(sent.Frames, frames), true)
}

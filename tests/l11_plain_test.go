package tests

import (
	"fmt"
	"math/rand"
	"slices"
	"strings"
	"testing"

	"loop.example/g00038/impl"
)

func bytes0(count int) string { return strings.Repeat("\x00", count) }

// plainRoom are the places of the bytes that buffers with Write hold, one behind the other.
func plainRoom(bufs []impl.Buf) []int64 {
	var places []int64
	for _, b := range bufs {
		for at := b.At; b.Write && at < b.At+b.Len; at++ {
			places = append(places, at)
		}
	}
	return places
}

// plainAsked is what stands in buffers without Write; nothing, where that is more than a text may have.
func plainAsked(mem string, bufs []impl.Buf) string {
	asked := ""
	for _, b := range bufs {
		if !b.Write {
			asked += mem[b.At : b.At+b.Len]
		}
	}
	if len(asked) > 65536 {
		return ""
	}
	return asked
}

// plainPut puts data byte by byte to as many places.
func plainPut(mem string, places []int64, data string) string {
	bytes := []byte(mem)
	for at, place := range places[:len(data)] {
		bytes[place] = data[at]
	}
	return string(bytes)
}

// plainPart tells whether so many bytes from a sector on are there, sector by sector.
func plainPart(disk string, sector int64, size int64) bool {
	if size == 0 {
		return sector <= int64(len(disk))/64
	}
	for ; size > 0; size, sector = size-64, sector+1 {
		if sector >= int64(len(disk))/64 {
			return false
		}
	}
	return size == 0
}

// plainRequest is what chapter 12 says of a disk's kinds, said once more; room is without the status.
func plainRequest(disk string, name string, asked string, room int64) (changed string, answer string, status byte) {
	kind, sector, data := wordAt(asked, 0), wordAt(asked, 8), asked[16:]
	switch {
	case kind == 0 && plainPart(disk, sector, room):
		return disk, disk[64*sector : 64*sector+room], 0
	case kind == 1 && plainPart(disk, sector, int64(len(data))):
		return disk[:64*sector] + data + disk[64*sector+int64(len(data)):], "", 0
	case kind == 11 && plainPart(disk, sector, int64(len(data))):
		return disk[:64*sector] + bytes0(len(data)) + disk[64*sector+int64(len(data)):], "", 0
	case kind == 0 || kind == 1 || kind == 11:
		return disk, "", 1
	case kind == 4:
		return disk, "", 0
	case kind == 8:
		return disk, (name + bytes0(20-len(name)))[:min(room, 20)], 0
	}
	return disk, "", 2
}

func plainServedCode(mem string, right bool, texts ...string) int64 {
	if slices.ContainsFunc(append(texts, mem), func(text string) bool { return len(text) > 65536 }) {
		return impl.ErrSize
	}
	return plainQueueCode(mem, right)
}

// plainServeNext does one request; ErrNone tells that none waits.
func plainServeNext(s *impl.Served, name string) int64 {
	if uint16(wordAt(s.Mem, s.Queue.Avail+4)) == uint16(s.Queue.Taken) {
		return impl.ErrNone
	}
	taken := plainTakeChain(s.Mem, s.Queue)
	if taken.Code == impl.ErrLimit {
		return impl.ErrLimit
	}
	asked, room := plainAsked(s.Mem, taken.Bufs), plainRoom(taken.Bufs)
	if taken.Code != impl.OK || len(asked) < 16 || len(room) == 0 {
		return impl.ErrState
	}
	last := len(room) - 1
	changed, answer, status := plainRequest(s.Disk, name, asked, int64(last))
	mem := plainPut(plainPut(s.Mem, room, answer), room[last:], string([]byte{status}))
	given := plainGiveChain(mem, taken.Queue, taken.Head, int64(len(answer)+1))
	s.Mem, s.Queue, s.Disk = given.Mem, given.Queue, changed
	s.Count, s.Signal = s.Count+1, s.Signal || given.Signal
	return impl.OK
}

// plainServeDisk is what chapter 12 says of ServeDisk, said once more: places are gone through byte by byte.
func plainServeDisk(mem string, q impl.Queue, disk string, name string) impl.Served {
	code := plainServedCode(mem, plainQueueRight(mem, q) && len(disk)%64 == 0 && len(name) <= 20, disk, name)
	if code != impl.OK {
		return impl.Served{Code: code}
	}
	s := impl.Served{Mem: mem, Queue: q, Disk: disk}
	for s.Code == impl.OK && s.Count < 1000 {
		s.Code = plainServeNext(&s, name)
	}
	if s.Code == impl.ErrNone {
		s.Code = impl.OK
	}
	return s
}

func plainSendFrames(mem string, p impl.Packed) impl.SentFrames {
	code := plainQueueCode(mem, plainPackedRight(mem, p))
	if code != impl.OK {
		return impl.SentFrames{Code: code}
	}
	s := impl.SentFrames{Mem: mem, Packed: p}
	for {
		taken := plainTakePacked(s.Mem, s.Packed)
		if taken.Code == impl.ErrNone {
			return s
		}
		frame := plainAsked(s.Mem, taken.Bufs)
		if taken.Code != impl.OK || len(frame) > 1500 {
			s.Code = impl.ErrState
			return s
		}
		given := plainGivePacked(s.Mem, s.Packed, taken.Id, 0, taken.Count)
		s.Mem, s.Packed, s.Frames = given.Mem, given.Packed, append(s.Frames, frame)
	}
}

func plainReceiveFrame(mem string, q impl.Queue, frame string) impl.Served {
	code := plainServedCode(mem, plainQueueRight(mem, q) && len(frame) <= 1500, frame)
	if code != impl.OK {
		return impl.Served{Code: code}
	}
	taken := plainTakeChain(mem, q)
	room := plainRoom(taken.Bufs)
	if taken.Code == impl.OK && len(room) < len(frame) {
		taken.Code = impl.ErrCount
	}
	if taken.Code != impl.OK {
		return impl.Served{Code: taken.Code}
	}
	given := plainGiveChain(plainPut(mem, room, frame), taken.Queue, taken.Head, int64(len(frame)))
	return impl.Served{Mem: given.Mem, Queue: given.Queue, Count: 1, Signal: given.Signal}
}

func checkServed(t *testing.T, what string, got impl.Served, want impl.Served) {
	t.Helper()
	checkMemory(t, what, got.Mem, want.Mem)
	checkMemory(t, what+" (the disk)", got.Disk, want.Disk)
	got.Mem, want.Mem, got.Disk, want.Disk = "", "", "", ""
	checkAlike(t, what, got, want)
}

func checkDisk(t *testing.T, what string, mem string, q impl.Queue, disk string, name string) impl.Served {
	t.Helper()
	got := impl.ServeDisk(mem, q, disk, name)
	checkServed(t, what+": ServeDisk", got, plainServeDisk(mem, q, disk, name))
	return got
}

func checkReceive(t *testing.T, what string, mem string, q impl.Queue, frame string) impl.Served {
	t.Helper()
	got := impl.ReceiveFrame(mem, q, frame)
	checkServed(t, what+": ReceiveFrame", got, plainReceiveFrame(mem, q, frame))
	return got
}

func checkSent(t *testing.T, what string, got impl.SentFrames, want impl.SentFrames) {
	t.Helper()
	checkMemory(t, what, got.Mem, want.Mem)
	checkNumber(t, what+": how many frames", int64(len(got.Frames)), int64(len(want.Frames)))
	got.Mem, want.Mem = "", ""
	checkAlike(t, what, got, want)
}

func checkSend(t *testing.T, what string, mem string, p impl.Packed) impl.SentFrames {
	t.Helper()
	got := impl.SendFrames(mem, p)
	checkSent(t, what+": SendFrames", got, plainSendFrames(mem, p))
	return got
}

// randomRequests is a queue with chains of which most begin with sixteen bytes of a request.
func randomRequests(rng *rand.Rand) (string, impl.Queue) {
	size := int64(1) << rng.Intn(5)
	q, end := splitRow(rng, size)
	q.Taken, q.Given = oneOf(rng, 0, 65534, 65535, rng.Int63n(65536)), oneOf(rng, 0, 65534, 65535, rng.Int63n(65536))
	frames := 4 + rng.Intn(3)
	whole := int64(256 * frames)
	mem := withWord(randomMemory(rng, frames), q.Avail+4, q.Taken)
	for range rng.Int63n(size + 1) {
		at := end + rng.Int63n(whole-end-400)
		mem = plainPut(mem, plainRoom([]impl.Buf{writes(at, 16)}), requestOf(oneOf(rng, 0, 0, 1, 1, 4, 8, 11, 11, rng.Int63n(15)), rng.Int63n(9), ""))
		bufs := []impl.Buf{reads(at, 16+64*rng.Int63n(3)), writes(rng.Int63n(whole-200), 64*rng.Int63n(3)+1)}
		switch rng.Intn(12) {
		case 0:
			bufs = []impl.Buf{reads(at, 9), reads(at+9, 7), bufs[1]}
		case 1:
			bufs = append(bufs, writes(rng.Int63n(whole-200), oneOf(rng, 0, 1, 63, 64)))
		case 2:
			bufs[0].Len += oneOf(rng, 1, -1, -16, 63)
		case 3:
			bufs[1].At = rng.Int63n(end)
		case 4:
			bufs[1].At = oneOf(rng, at, q.Avail, q.Used, q.Avail-9, whole+8) // at times not in memory, or below 0: no word
		case 5:
			bufs[1].Len = oneOf(rng, 0, 1, 2, 20, 21, 22, 64)
		}
		first := rng.Int63n(size)
		if posted := plainPostChain(mem, q, first, bufs[:min(int64(len(bufs)), size)]); posted.Code == impl.OK {
			mem = posted.Mem
		}
	}
	if rng.Intn(12) == 0 {
		mem = withWord(mem, q.Avail+8+4*rng.Int63n(size), oneOf(rng, size, 1<<32-1, size-1))
	}
	return mem, q
}

func TestDisksAgainstThePlainOne(t *testing.T) {
	rng := rand.New(rand.NewSource(111))
	codes, statuses := map[int64]int{}, map[byte]int{}
	several, changed := 0, 0
	for round := range 30000 {
		mem, q := randomRequests(rng)
		if round%3 == 0 {
			mem, q = randomSplit(rng)
		}
		disk := randomMemory(rng, 2)[:64*rng.Intn(9)]
		name := randomMemory(rng, 1)[:rng.Intn(21)]
		what := fmt.Sprintf("%x, %+v, %x, %x", mem, q, disk, name)
		got := checkDisk(t, what, mem, q, disk, name)
		if t.Failed() {
			return
		}
		codes[got.Code]++
		if got.Count > 0 {
			if room := plainRoom(plainTakeChain(mem, q).Bufs); len(room) > 0 {
				statuses[got.Mem[room[len(room)-1]]]++
			}
		}
		if got.Count > 1 {
			several++
		}
		if got.Disk != disk {
			changed++
		}
	}
	for _, code := range []int64{impl.OK, impl.ErrState, impl.ErrLimit} {
		if codes[code] < 300 {
			t.Errorf("code %d is answered but %d times", code, codes[code])
		}
	}
	if statuses[0] < 1000 || statuses[1] < 1000 || statuses[2] < 300 || several < 2000 || changed < 1000 {
		t.Errorf("statuses %d, %d, %d; %d do several; %d change their disk", statuses[0], statuses[1], statuses[2], several, changed)
	}
}

func TestCardsAgainstThePlainOnes(t *testing.T) {
	rng := rand.New(rand.NewSource(112))
	sent, received := map[int64]int{}, map[int64]int{}
	several := 0
	for round := range 20000 {
		mem, p := randomRing(rng)
		what := fmt.Sprintf("%x, %+v", mem, p)
		out := checkSend(t, what, mem, p)
		other, q := randomSplit(rng)
		if round%2 == 0 {
			other, q = randomRequests(rng)
		}
		frame := randomMemory(rng, 6)[:oneOf(rng, 0, 1, 60, 65, rng.Int63n(200), 1500, 1501)]
		in := checkReceive(t, fmt.Sprintf("%x, %+v, %x", other, q, frame), other, q, frame)
		if t.Failed() {
			return
		}
		sent[out.Code]++
		received[in.Code]++
		if len(out.Frames) > 1 {
			several++
		}
	}
	if sent[impl.OK] < 1000 || sent[impl.ErrState] < 1000 || several < 300 {
		t.Errorf("frames are sent with OK %d times, with ErrState %d times, several %d times", sent[impl.OK], sent[impl.ErrState], several)
	}
	for _, code := range []int64{impl.OK, impl.ErrForm, impl.ErrSize, impl.ErrSyntax, impl.ErrCount, impl.ErrNone, impl.ErrState, impl.ErrLimit, impl.ErrConflict} {
		if received[code] < 30 {
			t.Errorf("code %d of a frame that came is answered but %d times", code, received[code])
		}
	}
}

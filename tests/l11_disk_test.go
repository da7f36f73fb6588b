package tests

import (
	"encoding/binary"
	"fmt"
	"math/rand"
	"slices"
	"strings"
	"testing"

	"loop.example/g00038/impl"
)

// A disk's tests have a memory of 2048 bytes with a rowQueue of 4, whose tables end at 128; requests stand at 256.
const (
	askAt  = 256
	roomAt = 1024
)

func TestConstantsOfDevices(t *testing.T) {
	checkNumbers(t, "bounds", []int64{impl.SectorSize, impl.MaxFifo}, []int64{64, 16})
	checkNumbers(t, "a disk's kinds", []int64{impl.DiskRead, impl.DiskWrite, impl.DiskFlush, impl.DiskName, impl.DiskTrim}, []int64{0, 1, 4, 8, 11})
	checkNumbers(t, "a line's kinds", []int64{impl.SerIn, impl.SerRead, impl.SerWrite}, []int64{1, 2, 3})
	checkNumbers(t, "a line's registers", []int64{impl.SerData, impl.SerState, impl.SerEnable, impl.SerClear}, []int64{0, 1, 2, 3})
}

// requestOf is what a driver writes for a disk; the second and the fourth word count for nothing.
func requestOf(kind int64, sector int64, data string) string {
	var head [16]byte
	for at, word := range []int64{kind, 0xFFFFFFFF, sector, 0x0B0B0B0B} {
		binary.LittleEndian.PutUint32(head[4*at:], uint32(word))
	}
	return string(head[:]) + data
}

func putText(mem string, at int64, text string) string {
	return mem[:at] + text + mem[at+int64(len(text)):]
}

// asked is a memory with one request whose room are those buffers.
func asked(kind int64, sector int64, data string, room ...impl.Buf) string {
	request := requestOf(kind, sector, data)
	mem := putText(numberedMemory(8), askAt, request)
	return plainPostChain(putText(mem, 0, bytes0(128)), rowQueue(4), 0, append([]impl.Buf{reads(askAt, int64(len(request)))}, room...)).Mem
}

// letters is a disk of which each sector has a letter of its own.
func letters(sectors int) string {
	disk := ""
	for n := range sectors {
		disk += strings.Repeat(string([]byte{byte('A' + n%26)}), 64)
	}
	return disk
}

// givenBack is a rowQueue's memory behind one request of size bytes, where its first pair is the first descriptor's.
func givenBack(mem string, size int64) string {
	q := rowQueue(4)
	return withWord(withWord(withWord(mem, q.Used+8, 0), q.Used+12, size), q.Used+4, 1)
}

// checkRequest does one request that is to put that answer and status into its room, and to leave that disk.
func checkRequest(t *testing.T, what string, mem string, disk string, answer string, status byte, after string) {
	t.Helper()
	q := rowQueue(4)
	got := checkDisk(t, what, mem, q, disk, "some name")
	room := plainRoom(plainTakeChain(mem, q).Bufs)
	want := plainPut(plainPut(mem, room, answer), room[len(room)-1:], string([]byte{status}))
	q.Taken, q.Given = 1, 1
	checkServed(t, what, got, impl.Served{Mem: givenBack(want, int64(len(answer)+1)), Queue: q, Disk: after, Count: 1, Signal: true})
}

func TestDiskReads(t *testing.T) {
	disk := letters(4)
	for sector := range int64(4) {
		for count := int64(1); sector+count <= 4; count++ {
			what := fmt.Sprintf("%d sectors from %d on", count, sector)
			checkRequest(t, what, asked(impl.DiskRead, sector, "", writes(roomAt, 64*count+1)), disk, disk[64*sector:64*(sector+count)], 0, disk)
			apart := asked(impl.DiskRead, sector, "data that count for nothing", writes(roomAt+1, 64*count), writes(askAt, 1))
			checkRequest(t, what+", status apart", apart, disk, disk[64*sector:64*(sector+count)], 0, disk)
		}
	}
}

func TestDiskWritesAndTrims(t *testing.T) {
	disk := letters(4)
	data := strings.Repeat("0123456789abcdef", 16)
	for sector := range int64(4) {
		for count := int64(1); sector+count <= 4; count++ {
			what := fmt.Sprintf("%d sectors from %d on", count, sector)
			for _, room := range []int64{1, 2, 65} {
				checkRequest(t, what+" written", asked(impl.DiskWrite, sector, data[:64*count], writes(roomAt, room)), disk, "", 0, putText(disk, 64*sector, data[:64*count]))
				checkRequest(t, what+" trimmed", asked(impl.DiskTrim, sector, data[:64*count], writes(roomAt, room)), disk, "", 0, putText(disk, 64*sector, bytes0(64*int(count))))
			}
		}
	}
}

func TestBytesThatAreNoWholeSectors(t *testing.T) {
	disk := letters(4)
	for _, count := range []int64{1, 2, 4, 16, 32, 63, 65, 96, 127, 129, 255} {
		what := fmt.Sprintf("%d bytes", count)
		data := strings.Repeat("x", int(count))
		checkRequest(t, what+" read", asked(impl.DiskRead, 0, "", writes(roomAt, count+1)), disk, "", 1, disk)
		checkRequest(t, what+" written", asked(impl.DiskWrite, 0, data, writes(roomAt, 1)), disk, "", 1, disk)
		checkRequest(t, what+" trimmed", asked(impl.DiskTrim, 0, data, writes(roomAt, 1)), disk, "", 1, disk)
	}
}

func TestSectorsAtTheEndOfADisk(t *testing.T) {
	for _, sectors := range []int64{0, 1, 4} {
		disk := letters(int(sectors))
		for _, sector := range []int64{0, 1, 3, 4, 5, 1 << 16, 1 << 26, 1<<26 - 1, 1 << 31, 1<<32 - 64, 1<<32 - 1} {
			for count := range int64(6) {
				what := fmt.Sprintf("a disk of %d sectors, %d from %d on", sectors, count, sector)
				data := strings.Repeat("y", int(64*count))
				answer, written, trimmed, status := "", disk, disk, byte(1)
				if sector+count <= sectors {
					end := 64 * (sector + count)
					answer, status = disk[64*sector:end], 0
					written, trimmed = disk[:64*sector]+data+disk[end:], disk[:64*sector]+bytes0(len(data))+disk[end:]
				}
				checkRequest(t, what+" read", asked(impl.DiskRead, sector, "", writes(roomAt, 64*count+1)), disk, answer, status, disk)
				checkRequest(t, what+" written", asked(impl.DiskWrite, sector, data, writes(roomAt, 1)), disk, "", status, written)
				checkRequest(t, what+" trimmed", asked(impl.DiskTrim, sector, data, writes(roomAt, 1)), disk, "", status, trimmed)
			}
		}
	}
}

func TestDiskFlushAndKindsThatAreNone(t *testing.T) {
	disk := letters(2)
	for _, sector := range []int64{0, 1, 2, 9, 1<<32 - 1} {
		for _, data := range []string{"", "x", strings.Repeat("x", 64), strings.Repeat("x", 128)} {
			for _, room := range []int64{1, 2, 64, 65, 129} {
				what := fmt.Sprintf("sector %d, %d bytes, room of %d", sector, len(data), room)
				checkRequest(t, "DiskFlush, "+what, asked(impl.DiskFlush, sector, data, writes(roomAt, room)), disk, "", 0, disk)
				for _, kind := range []int64{2, 3, 5, 6, 7, 9, 10, 12, 13, 16, 256, 257, 264, 65536, 1 << 31, 1<<31 + 1, 1<<32 - 1} {
					checkRequest(t, fmt.Sprintf("kind %d, %s", kind, what), asked(kind, sector, data, writes(roomAt, room)), disk, "", 2, disk)
				}
			}
		}
	}
}

func TestDiskNames(t *testing.T) {
	q := rowQueue(4)
	full := "the name of a disk.."
	for size := range int64(21) {
		name := full[:size]
		for _, room := range []int64{1, 2, size, size + 1, size + 2, 19, 20, 21, 22, 64, 65, 500} {
			if room == 0 {
				continue
			}
			what := fmt.Sprintf("a name of %d, a room of %d", size, room)
			mem := asked(impl.DiskName, 99, "data", writes(roomAt, room))
			got := checkDisk(t, what, mem, q, letters(1), name)
			count := min(room-1, 20)
			answer := (name + bytes0(20))[:count]
			want := plainPut(putText(mem, roomAt, answer), []int64{roomAt + room - 1}, "\x00")
			after := q
			after.Taken, after.Given = 1, 1
			checkServed(t, what, got, impl.Served{Mem: givenBack(want, count+1), Queue: after, Disk: letters(1), Count: 1, Signal: true})
		}
	}
	checkText(t, "bytes of any kind", checkDisk(t, "bytes", asked(8, 0, "", writes(roomAt, 21)), q, "", "\xff\x00\x80").Mem[roomAt:roomAt+5], "\xff\x00\x80\x00\x00")
}

func TestWhatADiskRefuses(t *testing.T) {
	q := rowQueue(4)
	mem := asked(impl.DiskRead, 0, "", writes(roomAt, 65))
	refused := func(what string, mem string, q impl.Queue, disk string, name string, code int64) {
		t.Helper()
		checkServed(t, what, checkDisk(t, what, mem, q, disk, name), impl.Served{Code: code})
	}
	refused("a name of 21", mem, q, letters(1), strings.Repeat("n", 21), impl.ErrForm)
	refused("a name of 21, and no request", emptyMemory(2), q, letters(1), strings.Repeat("n", 21), impl.ErrForm)
	refused("a name of MaxBytes", mem, q, letters(1), strings.Repeat("n", 65536), impl.ErrForm)
	refused("a name of more", mem, q, letters(1), strings.Repeat("n", 65537), impl.ErrSize)
	for _, size := range []int{1, 2, 32, 63, 65, 127, 65535} {
		refused(fmt.Sprintf("a disk of %d bytes", size), mem, q, bytes0(size), "", impl.ErrForm)
	}
	for _, size := range []int{65537, 65600, 70000} {
		refused(fmt.Sprintf("a disk of %d bytes", size), mem, q, bytes0(size), "", impl.ErrSize)
		refused("a disk that is too long, and all else wrong", "x", impl.Queue{}, bytes0(size), strings.Repeat("n", 21), impl.ErrSize)
	}
	for what, wrong := range wrongMemories() {
		refused(what, wrong, q, letters(1), "", impl.ErrForm)
	}
	for _, long := range longMemories() {
		refused("memory that is too long", long, q, letters(1), "", impl.ErrSize)
		refused("memory that is too long, and a wrong disk", long, impl.Queue{}, "x", strings.Repeat("n", 21), impl.ErrSize)
	}
	for _, wrong := range []impl.Queue{{}, {Size: 3}, {Size: 4, Desc: 2}, {Size: 4, Avail: -4}, {Size: 4, Used: 2048}, {Size: 4, Taken: 65536}, {Size: 4, Given: -1}} {
		refused(fmt.Sprintf("%+v", wrong), mem, wrong, letters(1), "", impl.ErrForm)
	}
}

func TestDisksOfAllSizes(t *testing.T) {
	q := rowQueue(4)
	checkRequest(t, "an empty disk, nothing to read", asked(impl.DiskRead, 0, "", writes(roomAt, 1)), "", "", 0, "")
	checkRequest(t, "an empty disk, a sector to read", asked(impl.DiskRead, 0, "", writes(roomAt, 65)), "", "", 1, "")
	checkRequest(t, "an empty disk, a name", asked(impl.DiskName, 0, "", writes(roomAt, 10)), "", "some name", 0, "")
	greatest := letters(1024)
	checkRequest(t, "the last sector of MaxBytes", asked(impl.DiskRead, 1023, "", writes(roomAt, 65)), greatest, greatest[65536-64:], 0, greatest)
	checkRequest(t, "behind MaxBytes", asked(impl.DiskRead, 1024, "", writes(roomAt, 65)), greatest, "", 1, greatest)
	checkRequest(t, "MaxBytes is written", asked(impl.DiskWrite, 1023, strings.Repeat("z", 64), writes(roomAt, 1)), greatest, "", 0, greatest[:65536-64]+strings.Repeat("z", 64))
	// All of a disk is as many bytes as memory has: its room goes around, the status comes last.
	mem := putText(emptyMemory(256), askAt, requestOf(impl.DiskRead, 0, ""))
	mem = plainPostChain(mem, q, 0, []impl.Buf{reads(askAt, 16), writes(0, 65536), writes(9, 1)}).Mem
	got := checkDisk(t, "all of a disk", mem, q, greatest, "")
	checkNumbers(t, "all of a disk", []int64{got.Count, int64(got.Mem[9]), wordAt(got.Mem, q.Used+12)}, []int64{1, 0, 65537})
	checkText(t, "all of a disk", got.Mem[4096:], greatest[4096:])
	mem = plainPostChain(withWord(mem, q.Avail+4, 0), q, 0, []impl.Buf{reads(askAt, 16), writes(0, 65536), writes(0, 65536), writes(9, 1)}).Mem
	got = checkDisk(t, "a room of more than the disk", mem, q, greatest, "")
	checkNumbers(t, "a room of more than the disk", []int64{got.Count, int64(got.Mem[9]), wordAt(got.Mem, q.Used+12)}, []int64{1, 1, 1})
	full := putText(emptyMemory(256), askAt, requestOf(impl.DiskTrim, 0, ""))
	full = plainPostChain(full, q, 0, []impl.Buf{reads(askAt, 16), reads(0, 65520), writes(9, 1)}).Mem
	got = checkDisk(t, "just MaxBytes, of which sixteen are no data", full, q, greatest, "")
	checkNumbers(t, "just MaxBytes", []int64{got.Code, got.Count, int64(got.Mem[9])}, []int64{0, 1, 1})
	full = plainPostChain(withWord(full, q.Avail+4, 0), q, 0, []impl.Buf{reads(askAt, 16), reads(0, 65472), writes(9, 1)}).Mem
	checkText(t, "nearly all is trimmed", checkDisk(t, "nearly all is trimmed", full, q, greatest, "").Disk, bytes0(65472)+greatest[65472:])
}

func TestRoomsInSeveralBuffers(t *testing.T) {
	disk := letters(2)
	for what, room := range map[string][]impl.Buf{
		"two":                          {writes(roomAt, 40), writes(roomAt+100, 25)},
		"in another order":             {writes(roomAt+100, 40), writes(roomAt, 25)},
		"no length at the end":         {writes(roomAt, 65), writes(roomAt+300, 0)},
		"no length at memory's end":    {writes(roomAt, 65), writes(2048, 0)},
		"no length at first":           {writes(0, 0), writes(roomAt, 65)},
		"no length between":            {writes(roomAt, 64), writes(7, 0), writes(roomAt+200, 1)},
		"the last byte of memory":      {writes(2048-65, 65)},
		"over the ends of frames":      {writes(1270, 30), writes(1275+256, 35)},
		"in one another":               {writes(roomAt, 40), writes(roomAt+20, 25)},
		"the same twice":               {writes(roomAt, 32), writes(roomAt, 33)},
		"the status in the answer":     {writes(roomAt, 64), writes(roomAt+5, 1)},
		"the status at its beginning":  {writes(roomAt, 64), writes(roomAt, 1)},
		"in the request":               {writes(askAt, 64), writes(askAt+3, 1)},
		"the status in the request":    {writes(roomAt, 64), writes(askAt, 1)},
		"in the descriptors":           {writes(0, 64), writes(63, 1)},
		"over the table of what waits": {writes(60, 4), writes(64, 1), writes(73, 60)},
	} {
		// Rooms that lie in the queue's tables are held against the plain disk alone.
		got := checkDisk(t, what, asked(impl.DiskRead, 1, "", room...), rowQueue(4), disk, "")
		if room[0].At >= askAt {
			checkRequest(t, what, asked(impl.DiskRead, 1, "", room...), disk, disk[64:], 0, disk)
			checkRequest(t, what+", refused", asked(impl.DiskRead, 2, "", room...), disk, "", 1, disk)
			checkRequest(t, what+", a name", asked(impl.DiskName, 2, "", room...), disk, "some name"+bytes0(11), 0, disk)
		}
		checkNumber(t, what, got.Count, 1)
	}
	// A write takes what stood there ahead of its status.
	mem := asked(impl.DiskWrite, 0, strings.Repeat("w", 64), writes(askAt+16+9, 1))
	checkRequest(t, "a status in what is written", mem, disk, "", 0, strings.Repeat("w", 64)+disk[64:])
}

// The request may stand in several buffers, too, and these in one another and in the tables.
func TestRequestsInSeveralBuffers(t *testing.T) {
	q := rowQueue(16)
	disk := letters(3)
	data := strings.Repeat("0123456789abcdef", 4)
	request := requestOf(impl.DiskWrite, 2, data)
	mem := putText(emptyMemory(8), 1000, request)
	for _, cut := range []int64{1, 4, 8, 15, 16, 17, 60, 79} {
		mem := plainPostChain(mem, q, 5, []impl.Buf{reads(1000, cut), reads(300, 0), reads(1000+cut, 80-cut), writes(600, 1)}).Mem
		got := checkDisk(t, fmt.Sprintf("cut at %d", cut), mem, q, disk, "")
		checkText(t, fmt.Sprintf("cut at %d", cut), got.Disk, disk[:128]+data)
	}
	var bytes []impl.Buf
	for at := range int64(15) {
		bytes = append(bytes, reads(1000+at, 1))
	}
	bytes[14].Len = 66
	got := checkDisk(t, "byte by byte", plainPostChain(mem, q, 0, append(bytes, writes(600, 1))).Mem, q, disk, "")
	checkText(t, "byte by byte", got.Disk, disk[:128]+data)
	same := plainPostChain(mem, q, 0, []impl.Buf{reads(1000, 16), reads(1016, 32), reads(1016, 32), writes(600, 1)}).Mem
	checkText(t, "the same bytes twice", checkDisk(t, "the same bytes twice", same, q, disk, "").Disk, disk[:128]+data[:32]+data[:32])
	tables := plainPostChain(mem, q, 0, []impl.Buf{reads(1000, 16), reads(0, 64), writes(600, 1)}).Mem
	checkText(t, "what stands in the tables", checkDisk(t, "tables", tables, q, disk, "").Disk, disk[:128]+tables[:64])
}

// An indirect table's buffers are a request as others are.
func TestRequestsInAnIndirectTable(t *testing.T) {
	q := rowQueue(4)
	mem := putText(emptyMemory(8), askAt, requestOf(impl.DiskRead, 1, ""))
	mem = withDescs(mem, 700, desc{askAt, 16, next, 2}, desc{}, desc{roomAt, 64, next | write, 1})
	mem = withDescs(mem, 716, desc{1500, 1, write, 0})
	mem = plainPostChain(mem, q, 2, []impl.Buf{reads(700, 48)}).Mem
	mem = withWord(mem, q.Desc+16*2+8, indirect)
	got := checkDisk(t, "indirect", mem, q, letters(2), "")
	checkText(t, "indirect", got.Mem[roomAt:roomAt+64], letters(2)[64:])
	checkNumbers(t, "indirect", []int64{got.Count, wordAt(got.Mem, q.Used+8), wordAt(got.Mem, q.Used+12)}, []int64{1, 2, 65})
}

func TestManyRequests(t *testing.T) {
	rng := rand.New(rand.NewSource(113))
	for _, size := range []int64{1, 2, 4, 8, 16} {
		for _, taken := range []int64{0, 1, 65530, 65535} {
			for count := range size + 1 {
				q := rowQueue(size)
				q.Taken, q.Given = taken, rng.Int63n(65536)
				mem := withWord(emptyMemory(16), q.Avail+4, taken)
				for n := range count {
					at := 512 + 100*n
					mem = putText(mem, at, requestOf(impl.DiskName, 0, ""))
					// So that as many wait as there are descriptors, each has its parts in a table apart.
					mem = withDescs(mem, at+32, desc{at, 16, next, 1}, desc{at + 64, 1 + n, write, 0})
					mem = withDescs(mem, 16*n, desc{at + 32, 32, indirect, 0})
					mem = withWord(withWord(mem, q.Avail+8+4*((taken+n)%size), n), q.Avail+4, (taken+n+1)%65536)
				}
				what := fmt.Sprintf("Size %d, Taken %d, %d requests", size, taken, count)
				got := checkDisk(t, what, mem, q, "", "name and more of it.")
				after := q
				after.Taken, after.Given = (taken+count)%65536, (q.Given+count)%65536
				checkAlike(t, what, []any{got.Code, got.Count, got.Signal, got.Queue}, []any{0, count, count > 0, after})
				for n := range count {
					pair := q.Used + 8 + 8*((q.Given+n)%size)
					checkNumbers(t, what, []int64{wordAt(got.Mem, pair), wordAt(got.Mem, pair+4)}, []int64{n, n + 1})
				}
				if count == 0 {
					checkMemory(t, what, got.Mem, mem)
				}
				limit := withWord(mem, q.Avail+4, (taken+size+1)%65536)
				checkServed(t, what+", more than Size", checkDisk(t, what, limit, q, letters(1), ""), impl.Served{Code: impl.ErrLimit, Mem: limit, Queue: q, Disk: letters(1)})
			}
		}
	}
}

// wrongChains are those that end a disk's work: their descriptors, the first of which is number 2 of a rowQueue of 4.
func wrongChains() map[string][]desc {
	return map[string][]desc{
		"leads out of the table":     {{askAt, 16, next, 4}},
		"comes again":                {{askAt, 16, next, 2}},
		"a wrong table":              {{askAt, 24, indirect, 0}},
		"a table with next":          {{askAt, 16, indirect | next, 3}},
		"a table not in memory":      {{2048, 16, indirect, 0}},
		"a buffer not in memory":     {{askAt, 16, next, 3}, {2048, 1, write, 0}},
		"a request not in memory":    {{2033, 16, next, 3}, {roomAt, 1, write, 0}},
		"a request behind its room":  {{roomAt, 1, write | next, 3}, {askAt, 16, 0, 0}},
		"no sixteen bytes":           {{askAt, 15, next, 3}, {roomAt, 1, write, 0}},
		"no byte":                    {{askAt, 0, next, 3}, {roomAt, 65, write, 0}},
		"room alone":                 {{roomAt, 65, write, 0}},
		"no room":                    {{askAt, 16, next, 3}, {askAt, 16, 0, 0}},
		"no room, and much data":     {{askAt, 1000, 0, 0}},
		"room without a byte":        {{askAt, 16, next, 3}, {roomAt, 0, write, 0}},
		"room without a byte at end": {{askAt, 16, next, 3}, {2048, 0, write, 0}},
		"neither bytes nor room":     {{0, 0, 0, 0}},
	}
}

func TestChainsThatEndTheWork(t *testing.T) {
	q := rowQueue(4)
	disk := letters(3)
	data := strings.Repeat("d", 64)
	good := putText(asked(impl.DiskWrite, 1, data, writes(roomAt, 1)), 600, requestOf(impl.DiskRead, 0, ""))
	for what, descs := range wrongChains() {
		mem := withDescs(good, 32, descs...)
		mem = withWord(withWord(mem, q.Avail+12, 2), q.Avail+16, 0)
		alone := withWord(withWord(mem, q.Avail+8, 2), q.Avail+4, 1)
		checkServed(t, what+", alone", checkDisk(t, what, alone, q, disk, ""), impl.Served{Code: impl.ErrState, Mem: alone, Queue: q, Disk: disk})
		ahead := withWord(withWord(mem, q.Avail+8, 2), q.Avail+4, 3)
		checkServed(t, what+", ahead of others", checkDisk(t, what, ahead, q, disk, ""), impl.Served{Code: impl.ErrState, Mem: ahead, Queue: q, Disk: disk})
		for _, count := range []int64{2, 3} {
			behind := withWord(mem, q.Avail+4, count)
			after := q
			after.Taken, after.Given = 1, 1
			want := impl.Served{Code: impl.ErrState, Mem: givenBack(plainPut(behind, []int64{roomAt}, "\x00"), 1), Queue: after, Disk: disk[:64] + data + disk[128:], Count: 1, Signal: true}
			checkServed(t, what+", behind another", checkDisk(t, what, behind, q, disk, ""), want)
			quiet := withWord(behind, q.Avail, 1)
			want.Mem, want.Signal = withWord(want.Mem, q.Avail, 1), false
			checkServed(t, what+", behind a quiet one", checkDisk(t, what, quiet, q, disk, ""), want)
		}
	}
	for _, head := range []int64{4, 5, 16, 65536, 1 << 31, 1<<32 - 1} {
		mem := withWord(good, q.Avail+8, head)
		checkServed(t, fmt.Sprintf("head %d", head), checkDisk(t, "head", mem, q, disk, ""), impl.Served{Code: impl.ErrState, Mem: mem, Queue: q, Disk: disk})
	}
}

func TestRequestsOfMoreThanMaxBytes(t *testing.T) {
	q := rowQueue(4)
	mem := putText(emptyMemory(256), askAt, requestOf(impl.DiskFlush, 0, ""))
	for what, row := range map[string]struct {
		bufs []impl.Buf
		code int64
	}{
		"just MaxBytes":     {[]impl.Buf{reads(askAt, 16), reads(0, 65520), writes(roomAt, 1)}, impl.OK},
		"one more":          {[]impl.Buf{reads(askAt, 16), reads(0, 65521), writes(roomAt, 1)}, impl.ErrState},
		"twice as many":     {[]impl.Buf{reads(askAt, 16), reads(0, 65536), reads(0, 65520), writes(roomAt, 1)}, impl.ErrState},
		"a room of as many": {[]impl.Buf{reads(askAt, 16), writes(0, 65536), writes(0, 65536), writes(0, 65536)}, impl.OK},
	} {
		posted := plainPostChain(mem, q, 0, row.bufs).Mem
		got := checkDisk(t, what, posted, q, letters(1), "")
		checkNumber(t, what, got.Code, row.code)
		if row.code != impl.OK {
			checkServed(t, what, got, impl.Served{Code: impl.ErrState, Mem: posted, Queue: q, Disk: letters(1)})
		}
	}
}

// A request whose answer goes to the flags or to the count changes what is asked of them behind it.
func TestRequestsThatChangeTheTableOfWhatWaits(t *testing.T) {
	q := rowQueue(4)
	flagsOf := func(flags int64, count int64) string {
		return requestOf(flags, 0, "")[:4] + requestOf(count, 0, "")[:4] + bytes0(56)
	}
	serve := func(flags int64, made int64, disk string, room ...impl.Buf) impl.Served {
		t.Helper()
		mem := withWord(withWord(asked(impl.DiskRead, 0, "", room...), q.Avail, flags), q.Avail+4, made)
		return checkDisk(t, "the table of what waits", mem, q, disk, "")
	}
	room := []impl.Buf{writes(q.Avail, 8), writes(roomAt, 57)}
	checkAlike(t, "flags off", serve(0, 1, letters(1), writes(roomAt, 65)).Signal, true)
	checkAlike(t, "flags on", serve(1, 1, letters(1), writes(roomAt, 65)).Signal, false)
	checkAlike(t, "other flags", serve(1<<32-2, 1, letters(1), writes(roomAt, 65)).Signal, true)
	got := serve(0, 1, flagsOf(1, 1), room...)
	checkAlike(t, "put on", []any{got.Code, got.Count, got.Signal}, []any{0, 1, false})
	got = serve(1, 1, flagsOf(2, 1), room...)
	checkAlike(t, "put off", []any{got.Code, got.Count, got.Signal}, []any{0, 1, true})
	got = serve(0, 1, flagsOf(0, 6), room...)
	checkAlike(t, "more than Size behind it", []any{got.Code, got.Count, got.Signal, got.Queue.Taken}, []any{impl.ErrLimit, 1, true, 1})
	got = serve(0, 1, flagsOf(0, 0), room...)
	checkAlike(t, "one that goes back is too many", []any{got.Code, got.Count, got.Queue.Taken}, []any{impl.ErrLimit, 1, 1})
	got = serve(0, 4, flagsOf(1, 1), room...)
	checkAlike(t, "those behind it wait no more", []any{got.Code, got.Count, got.Signal}, []any{0, 1, false})
	// The first one signals, then the second one puts the flags on: one that signals is enough.
	mem := withDescs(asked(impl.DiskFlush, 0, "", writes(roomAt, 1)), 32, desc{600, 16, next, 3}, desc{q.Avail, 1, write, 0})
	mem = withWord(withWord(putText(mem, 600, requestOf(9, 0, "")), q.Avail+12, 2), q.Avail+4, 2)
	got = checkDisk(t, "a status at the flags", mem, q, "", "")
	checkAlike(t, "a status of 2", []any{got.Count, got.Signal, got.Mem[q.Avail]}, []any{2, true, byte(2)})
	got = checkDisk(t, "a status at the flags", putText(mem, 600, requestOf(impl.DiskRead, 7, "")), q, "", "")
	checkAlike(t, "a status of 1", []any{got.Count, got.Signal, got.Mem[q.Avail]}, []any{2, true, byte(1)})
	quiet := withWord(putText(mem, 600, requestOf(impl.DiskRead, 7, "")), q.Avail, 1)
	checkAlike(t, "both are quiet", checkDisk(t, "both are quiet", quiet, q, "", "").Signal, false)
	checkAlike(t, "the second one alone signals", checkDisk(t, "the second one", putText(quiet, 600, requestOf(impl.DiskFlush, 7, "")), q, "", "").Signal, true)
}

// endless is a queue of one whose counts are one word: each chain that goes back makes it available again.
func endless() (string, impl.Queue) {
	q := impl.Queue{Size: 1, Desc: 0, Avail: 64, Used: 64, Taken: 3, Given: 4}
	mem := putText(emptyMemory(4), askAt, requestOf(impl.DiskWrite, 0, strings.Repeat("e", 64)))
	mem = withDescs(mem, 128, desc{askAt, 80, next, 1}, desc{512, 1, write, 0})
	mem = withDescs(mem, 0, desc{128, 32, indirect, 0})
	return withWord(mem, 68, 4), q
}

func TestMaxListRequests(t *testing.T) {
	mem, q := endless()
	got := checkDisk(t, "without an end", mem, q, letters(2), "")
	checkAlike(t, "without an end", []any{got.Code, got.Count, got.Signal, got.Queue.Taken, got.Queue.Given}, []any{0, 1000, true, 1003, 1004})
	checkText(t, "without an end", got.Disk, strings.Repeat("e", 64)+letters(2)[64:])
	again := checkDisk(t, "from there on", got.Mem, got.Queue, got.Disk, "")
	checkAlike(t, "from there on", []any{again.Code, again.Count, again.Queue.Taken}, []any{0, 1000, 2003})
}

// listDisk has in each sector what makes the next request available: a count, and a request for the sector behind.
func listDisk(count int64, most int64) string {
	disk := []byte(bytes0(int(64 * count)))
	for n := range count {
		sector := disk[64*n:]
		binary.LittleEndian.PutUint32(sector[4:], uint32(min(n+2, most)))
		binary.LittleEndian.PutUint32(sector[16+8:], uint32(n+1))
	}
	return string(disk)
}

func TestRequestsThatMakeFurtherOnesAvailable(t *testing.T) {
	// The table of what waits, the request and the room begin at 64; descriptors and what went back stand apart.
	q := impl.Queue{Size: 2, Desc: 0, Avail: 64, Used: 200}
	mem := withDescs(emptyMemory(4), 0, desc{80, 16, next, 1}, desc{64, 65, write, 0})
	mem = withWord(mem, 68, 1)
	for what, row := range map[string]struct {
		sectors, most, count, code int64
	}{
		"one":                       {1, 1, 1, impl.OK},
		"one more":                  {2, 2, 2, impl.OK},
		"999":                       {1024, 999, 999, impl.OK},
		"MaxList":                   {1024, 1000, 1000, impl.OK},
		"more than MaxList":         {1024, 1001, 1000, impl.OK},
		"far more":                  {1024, 5000, 1000, impl.OK},
		"what is read is refused":   {500, 5000, 501, impl.OK},
		"refused as the MaxList-th": {999, 5000, 1000, impl.OK},
	} {
		got := checkDisk(t, what, mem, q, listDisk(row.sectors, row.most), "")
		checkNumbers(t, what, []int64{got.Code, got.Count, got.Queue.Taken, got.Queue.Given}, []int64{row.code, row.count, row.count, row.count})
	}
	// What waits behind MaxList requests is not looked at: neither a wrong chain nor more than Size.
	wrong := []byte(listDisk(1024, 5000))
	binary.LittleEndian.PutUint32(wrong[64*999+8:], 7)
	got := checkDisk(t, "a wrong chain behind MaxList", mem, q, string(wrong), "")
	checkNumbers(t, "a wrong chain behind MaxList", []int64{got.Code, got.Count}, []int64{impl.OK, 1000})
	binary.LittleEndian.PutUint32(wrong[64*999+4:], 1100)
	got = checkDisk(t, "too many behind MaxList", mem, q, string(wrong), "")
	checkNumbers(t, "too many behind MaxList", []int64{got.Code, got.Count}, []int64{impl.OK, 1000})
	binary.LittleEndian.PutUint32(wrong[64*998+4:], 1100)
	got = checkDisk(t, "too many as the last one", mem, q, string(wrong), "")
	checkNumbers(t, "too many as the last one", []int64{got.Code, got.Count, got.Queue.Taken}, []int64{impl.ErrLimit, 999, 999})
}

func TestTablesThatLieInOneAnother(t *testing.T) {
	rng := rand.New(rand.NewSource(114))
	counts := map[int64]int{}
	for range 4000 {
		size := int64(1) << rng.Intn(3)
		q := impl.Queue{Size: size, Desc: 4 * rng.Int63n(9), Avail: 4 * rng.Int63n(20), Used: 4 * rng.Int63n(20), Taken: rng.Int63n(4), Given: rng.Int63n(4)}
		mem := randomMemory(rng, 3)
		for n := range int64(16) {
			mem = putText(mem, 200+16*n, requestOf(oneOf(rng, 0, 1, 8, 11, 4), rng.Int63n(3), ""))
		}
		for n := range size {
			inner := 480 + 32*n
			mem = withDescs(mem, inner, desc{200 + 16*rng.Int63n(11), 16 + 64*rng.Int63n(2), next, 1}, desc{4 * rng.Int63n(40), 1 + 64*rng.Int63n(2), write, 0})
			mem = withDescs(mem, q.Desc+16*n, desc{inner, 32, indirect, 0})
		}
		mem = withWord(mem, q.Avail+4, q.Taken+1+rng.Int63n(size))
		mem = withWord(mem, q.Avail+8+4*(q.Taken%size), rng.Int63n(size))
		got := checkDisk(t, fmt.Sprintf("%x, %+v", mem, q), mem, q, randomMemory(rng, 1)[:64*rng.Intn(3)], "n")
		if t.Failed() {
			return
		}
		counts[min(got.Count, 2)]++
	}
	if counts[1] < 300 || counts[2] < 30 {
		t.Errorf("one request is done %d times, several %d times", counts[1], counts[2])
	}
}

func TestP18ServeDiskChangesNothingElse(t *testing.T) {
	rng := rand.New(rand.NewSource(183))
	done, kinds := 0, map[int64]int{}
	for round := range 20000 {
		mem, q := randomRequests(rng)
		if round%4 == 0 {
			mem, q = randomSplit(rng)
		}
		disk := randomMemory(rng, 2)[:64*rng.Intn(9)]
		// One request alone waits, so that it is known whose room it is; what makes others wait is left out.
		if wordAt(mem, q.Avail+4)%65536 != q.Taken {
			mem = withWord(mem, q.Avail+4, (q.Taken+1)%65536)
		}
		taken := impl.TakeChain(mem, q)
		got := impl.ServeDisk(mem, q, disk, "a name")
		what := fmt.Sprintf("%x, %+v, %x", mem, q, disk)
		checkNumber(t, what+": the disk's size", int64(len(got.Disk)), int64(len(disk)))
		if got.Count == 0 {
			checkMemory(t, what+": nothing was done", got.Mem, mem)
			checkMemory(t, what+": nothing was done", got.Disk, disk)
		}
		if got.Count == 1 {
			done++
			free := append(slices.Clone(taken.Bufs), writes(q.Used, 8+8*q.Size))
			for at := range int64(len(mem)) {
				if mem[at] != got.Mem[at] && !slices.ContainsFunc(free, func(b impl.Buf) bool { return b.Write && among(at, b.At, b.At+b.Len-1) }) {
					t.Errorf("%s: the byte at %d is another one", what, at)
				}
			}
			kind := wordAt(plainAsked(mem, taken.Bufs), 0)
			kinds[kind]++
			if got.Disk != disk && kind != impl.DiskWrite && kind != impl.DiskTrim {
				t.Errorf("%s: kind %d changes the disk", what, kind)
			}
		}
		if t.Failed() {
			return
		}
	}
	if done < 5000 || kinds[0] < 500 || kinds[1] < 500 || kinds[4] < 200 || kinds[8] < 200 || kinds[11] < 500 || kinds[2] < 50 {
		t.Errorf("%d requests are done, of kinds %v", done, kinds)
	}
}

// writeAndRead posts two requests behind each other: data to a sector, and what is there then.
func writeAndRead(mem string, q impl.Queue, sector int64, data string) string {
	mem = putText(mem, 600, requestOf(impl.DiskWrite, sector, data))
	mem = putText(mem, 1600, requestOf(impl.DiskRead, sector, ""))
	mem = plainPostChain(mem, q, 3, []impl.Buf{reads(600, 16), reads(616, int64(len(data))), writes(2000, 1)}).Mem
	return plainPostChain(mem, q, 6, []impl.Buf{reads(1600, 16), writes(2100, int64(len(data))), writes(2001, 1)}).Mem
}

func TestP19WhatIsWrittenIsRead(t *testing.T) {
	rng := rand.New(rand.NewSource(191))
	for _, sectors := range []int64{1, 2, 7, 1024} {
		disk := randomMemory(rng, 256)[:64*sectors]
		for range 100 {
			q, _ := splitRow(rng, 8)
			q.Taken, q.Given = oneOf(rng, 0, 65535, rng.Int63n(65536)), oneOf(rng, 0, 65535, rng.Int63n(65536))
			mem := withWord(emptyMemory(13), q.Avail+4, q.Taken)
			sector := oneOf(rng, 0, sectors-1, rng.Int63n(sectors))
			data := randomMemory(rng, 3)[:64*oneOf(rng, 1, min(sectors-sector, 12), 1+rng.Int63n(min(sectors-sector, 12)))]
			if int64(len(data)) > 64*(sectors-sector) {
				continue
			}
			mem = writeAndRead(mem, q, sector, data)
			got := impl.ServeDisk(mem, q, disk, "")
			what := fmt.Sprintf("%d bytes to sector %d of %d", len(data), sector, sectors)
			checkNumbers(t, what, []int64{got.Code, got.Count, int64(got.Mem[2000]), int64(got.Mem[2001])}, []int64{0, 2, 0, 0})
			checkText(t, what, got.Mem[2100:2100+len(data)], data)
			disk = got.Disk
		}
	}
}

// Over many calls of many requests a disk is what a row of bytes is that the same is done to.
func TestP19ADiskOverManyCalls(t *testing.T) {
	rng := rand.New(rand.NewSource(192))
	q := rowQueue(16)
	q.Taken, q.Given = 65500, 65400
	mem := withWord(emptyMemory(64), q.Avail+4, q.Taken)
	disk := randomMemory(rng, 4)
	model := []byte(disk)
	for round := range 60 {
		want := map[int64]string{}
		for n := range int64(5) {
			at, room := 1024+3000*n, 1024+3000*n+1500
			sector, count := rng.Int63n(14), 1+rng.Int63n(2)
			data := randomMemory(rng, 1)[:64*count]
			kind := oneOf(rng, impl.DiskRead, impl.DiskWrite, impl.DiskTrim, impl.DiskRead)
			mem = putText(mem, at, requestOf(kind, sector, data))
			size := int64(1)
			switch kind {
			case impl.DiskRead:
				size = 64*count + 1
				want[room] = string(model[64*sector : 64*(sector+count)])
			case impl.DiskWrite:
				copy(model[64*sector:], data)
			case impl.DiskTrim:
				copy(model[64*sector:], bytes0(len(data)))
			}
			mem = plainPostChain(mem, q, 3*n, []impl.Buf{reads(at, 16), reads(at+16, 64*count), writes(room, size)}).Mem
		}
		got := impl.ServeDisk(mem, q, disk, "")
		what := fmt.Sprintf("round %d", round)
		checkNumbers(t, what, []int64{got.Code, got.Count}, []int64{0, 5})
		for room, data := range want {
			checkText(t, what, got.Mem[room:room+int64(len(data))], data)
		}
		checkText(t, what, got.Disk, string(model))
		mem, q, disk = got.Mem, got.Queue, got.Disk
	}
}

// What the promise leaves out: a write that is refused is not read.
func TestWritesThatAreRefusedAreNotRead(t *testing.T) {
	q := rowQueue(8)
	disk := letters(2)
	for _, sector := range []int64{1, 2, 1<<32 - 1} {
		mem := writeAndRead(emptyMemory(13), q, sector, strings.Repeat("r", 128))
		got := checkDisk(t, "refused", mem, q, disk, "")
		checkNumbers(t, "refused", []int64{got.Count, int64(got.Mem[2000]), int64(got.Mem[2001])}, []int64{2, 1, 1})
		checkText(t, "refused", got.Disk+got.Mem[2100:2228], disk+bytes0(128))
	}
}

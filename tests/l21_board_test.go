package tests

import (
	"fmt"
	"math/rand"
	"slices"
	"strings"
	"testing"

	"loop.example/g00038/impl"
)

// checkBoard asks all calls that take a board or tables of one.
func checkBoard(t *testing.T, what string, b impl.Board, right bool) {
	t.Helper()
	checkEqual(t, what+": the plain one", plainBoardRight(b), right)
	checkNumber(t, what+": BoardFault", impl.BoardFault(b), faultCode(right))
	tables := checkTablesOf(t, what, b)
	disk := impl.MakeBoot([]int64{1, 2}, 0, 0)
	if !right {
		checkTables(t, what, tables, nil)
		checkBootCode(t, what, disk, b, impl.ErrForm)
		return
	}
	checkNumber(t, what+": how many tables", int64(len(tables)), 3)
	checkBoardRead(t, what, checkBoardOf(t, what, tables), impl.BoardRead{Good: true, Board: b})
	checkNumber(t, what+": Boot", checkBoot(t, what, disk, b).Code, impl.OK)
}

func changedBoard(change func(b *impl.Board)) impl.Board {
	b := sampleBoard()
	change(&b)
	return b
}

func TestBoardFaultOfNumbers(t *testing.T) {
	checkBoard(t, "the sample", sampleBoard(), true)
	checkBoard(t, "nothing", impl.Board{}, false)
	checkBoard(t, "the least", impl.Board{Frames: 2, Cpus: 1}, true)
	checkBoard(t, "an empty list", impl.Board{Frames: 2, Cpus: 1, Devices: []impl.Device{}}, true)
	checkBoard(t, "the most", impl.Board{Frames: 256, Cpus: 8, Devices: manyDevices(16)}, true)
	for frames, right := range withEnds(map[int64]bool{-1: false, -2: false, 0: false, 1: false, 2: true, 3: true, 255: true, 256: true, 257: false, 258: false, 1<<32 + 2: false}) {
		checkBoard(t, fmt.Sprintf("%d Frames", frames), changedBoard(func(b *impl.Board) { b.Frames = frames }), right)
	}
	for cpus, right := range withEnds(map[int64]bool{-1: false, 0: false, 1: true, 2: true, 7: true, 8: true, 9: false, 257: false, 1<<32 + 1: false}) {
		checkBoard(t, fmt.Sprintf("%d Cpus", cpus), changedBoard(func(b *impl.Board) { b.Cpus = cpus }), right)
	}
	for count, right := range map[int64]bool{0: true, 1: true, 2: true, 15: true, 16: true, 17: false, 18: false, 100: false, 1000: false, 1001: false} {
		checkBoard(t, fmt.Sprintf("%d Devices", count), changedBoard(func(b *impl.Board) { b.Devices = manyDevices(count) }), right)
	}
}

// eachDevice changes each of the sample's devices by itself.
func eachDevice(change func(d *impl.Device)) []impl.Board {
	var boards []impl.Board
	for n := range sampleBoard().Devices {
		boards = append(boards, changedBoard(func(b *impl.Board) { change(&b.Devices[n]) }))
	}
	return boards
}

func TestBoardFaultOfDevices(t *testing.T) {
	for kind, right := range withEnds(map[int64]bool{-1: false, -255: false, 0: false, 1: true, 2: true, 254: true, 255: true, 256: false, 257: false, 1<<32 + 1: false}) {
		for n, b := range eachDevice(func(d *impl.Device) { d.Kind = kind }) {
			checkBoard(t, fmt.Sprintf("Kind %d of device %d", kind, n), b, right)
		}
	}
	for line, right := range withEnds(map[int64]bool{-1: false, 0: true, 1: true, 5: true, 6: true, 7: false, 8: false, 255: false, 256: false, 1 << 32: false}) {
		for n, b := range eachDevice(func(d *impl.Device) { d.Line = line }) {
			checkBoard(t, fmt.Sprintf("Line %d of device %d", line, n), b, right)
		}
	}
	for port, right := range withEnds(map[int64]bool{-1: false, 0: true, 1: true, 2046: true, 2047: true, 2048: false, 2049: false, 65535: false, 65536: false, 1 << 32: false}) {
		b := impl.Board{Frames: 4, Cpus: 1, Devices: []impl.Device{{Kind: 1, Port: port}}}
		checkBoard(t, fmt.Sprintf("Port %d", port), b, right)
	}
	portsOf := func(ports ...int64) impl.Board {
		b := impl.Board{Frames: 4, Cpus: 1}
		for _, port := range ports {
			b.Devices = append(b.Devices, impl.Device{Kind: 9, Port: port, Line: 3})
		}
		return b
	}
	checkBoard(t, "rising", portsOf(0, 1, 2, 2046, 2047), true)
	checkBoard(t, "the last two equal", portsOf(0, 1, 2047, 2047), false)
	checkBoard(t, "the first two equal", portsOf(0, 0, 1, 2047), false)
	checkBoard(t, "equal ones of other kinds", impl.Board{Frames: 4, Cpus: 1, Devices: []impl.Device{{Kind: 1, Port: 5}, {Kind: 2, Port: 5, Line: 1}}}, false)
	checkBoard(t, "falling", portsOf(1, 0), false)
	checkBoard(t, "falling at the end", portsOf(0, 7, 6), false)
	checkBoard(t, "falling and rising", portsOf(5, 3, 9), false)
	checkBoard(t, "below 0 ahead", portsOf(-1, 0), false)
	checkBoard(t, "2048 at the end", portsOf(0, 2047, 2048), false)
	checkBoard(t, "16 rising", portsOf(inSteps(5, 100, 16)...), true)
	checkBoard(t, "an empty device", impl.Board{Frames: 4, Cpus: 1, Devices: make([]impl.Device, 1)}, false)
}

func TestTablesOfKnown(t *testing.T) {
	checkTables(t, "the sample", checkTablesOf(t, "the sample", sampleBoard()), []impl.FirmTable{
		firmTable("MEMO", 1, "\x08\x00\x00\x00"),
		firmTable("CPUS", 1, "\x02\x00\x00\x00"),
		firmTable("DEVS", 1, "\x03\x00\x04\x02\x04\x00\x00\xff\xff\x07\x06\x01"),
	})
	checkTables(t, "without Devices", checkTablesOf(t, "without Devices", impl.Board{Frames: 256, Cpus: 8}), []impl.FirmTable{
		firmTable("MEMO", 1, "\x00\x01\x00\x00"), firmTable("CPUS", 1, "\x08\x00\x00\x00"), firmTable("DEVS", 1, ""),
	})
}

func TestBoardOfTablesThatAreNone(t *testing.T) {
	right := plainTablesOf(sampleBoard())
	checkBoardRead(t, "right ones", checkBoardOf(t, "right ones", right), impl.BoardRead{Good: true, Board: sampleBoard()})
	checkNoBoard(t, "no tables", nil)
	checkNoBoard(t, "an empty list", []impl.FirmTable{})
	for n := range right {
		checkNoBoard(t, fmt.Sprintf("without table %d", n), slices.Delete(slices.Clone(right), n, n+1))
		checkNoBoard(t, fmt.Sprintf("table %d alone", n), right[n:n+1])
		checkNoBoard(t, fmt.Sprintf("table %d is empty", n), slices.Replace(slices.Clone(right), n, n+1, impl.FirmTable{}))
		for _, more := range append(sampleTables(), right...) {
			checkNoBoard(t, fmt.Sprintf("one more at %d", n), slices.Insert(slices.Clone(right), n, more))
		}
	}
	checkNoBoard(t, "one more at the end", append(slices.Clone(right), firmTable("MORE", 1, "")))
	for _, order := range [][3]int{{0, 2, 1}, {1, 0, 2}, {1, 2, 0}, {2, 0, 1}, {2, 1, 0}, {0, 0, 2}, {0, 1, 1}} {
		checkNoBoard(t, fmt.Sprintf("in the order %v", order), []impl.FirmTable{right[order[0]], right[order[1]], right[order[2]]})
	}
	for _, count := range []int{4, 10, 11, 1000, 1001} {
		checkNoBoard(t, fmt.Sprintf("%d tables", count), append(slices.Clone(right), manyTables(count-3, right[2])...))
	}
}

func TestBoardOfOtherTables(t *testing.T) {
	right := plainTablesOf(sampleBoard())
	changed := func(n int, change func(table *impl.FirmTable)) []impl.FirmTable {
		tables := slices.Clone(right)
		change(&tables[n])
		return tables
	}
	for n := range right {
		for _, name := range []string{"", "MEM", "MEMOS", "memo", "DEVI", "ABCD", "CPUs"} {
			checkNoBoard(t, fmt.Sprintf("table %d with the name %q", n, name), changed(n, func(table *impl.FirmTable) { table.Name = name }))
		}
		for _, rev := range []int64{-1, 0, 2, 255, 256, 257, 1<<32 + 1, -1 << 63, 1<<63 - 1} {
			checkNoBoard(t, fmt.Sprintf("table %d with Rev %d", n, rev), changed(n, func(table *impl.FirmTable) { table.Rev = rev }))
		}
		for cut := 1; cut <= len(right[n].Body); cut++ {
			tables := changed(n, func(table *impl.FirmTable) { table.Body = table.Body[:len(table.Body)-cut] })
			if n == 2 && cut%4 == 0 {
				want := changedBoard(func(b *impl.Board) { b.Devices = b.Devices[:3-cut/4] })
				checkBoardRead(t, "fewer Devices", checkBoardOf(t, "fewer Devices", tables), impl.BoardRead{Good: true, Board: want})
			} else {
				checkNoBoard(t, fmt.Sprintf("table %d with %d bytes fewer", n, cut), tables)
			}
		}
		for _, more := range []int{1, 2, 3, 4, 8, 52, 56, 200, 65536, 70000} {
			checkNoBoard(t, fmt.Sprintf("table %d with %d bytes more", n, more), changed(n, func(table *impl.FirmTable) { table.Body += bytes0(more) }))
		}
	}
	// As many Devices as may be, and more.
	for count, good := range map[int64]bool{15: true, 16: true, 17: false, 18: false, 50: false, 51: false, 1000: false, 2048: false} {
		body := ""
		for n := range count {
			body += fourBytes(1<<24 + n)
		}
		got := checkBoardOf(t, "many Devices", changed(2, func(table *impl.FirmTable) { table.Body = body }))
		checkEqual(t, fmt.Sprintf("%d Devices", count), got.Good, good)
	}
	// Far more than any Body, of which the first ones alone are right.
	long := fourBytes(1<<24) + strings.Repeat("\x01\x00\x00\x01", 20000)
	checkNoBoard(t, "a very long Body", changed(2, func(table *impl.FirmTable) { table.Body = long }))
}

// Words that are no right board are no board's.
func TestBoardOfOtherWords(t *testing.T) {
	right := plainTablesOf(sampleBoard())
	checkWord := func(n int, word int64, want impl.Board) {
		t.Helper()
		tables := slices.Clone(right)
		tables[n].Body = fourBytes(word)
		what := fmt.Sprintf("table %d with the word %#x", n, word)
		got := checkBoardOf(t, what, tables)
		if plainBoardRight(want) {
			checkBoardRead(t, what, got, impl.BoardRead{Good: true, Board: want})
		} else {
			checkBoardRead(t, what, got, impl.BoardRead{})
		}
	}
	for _, word := range []int64{0, 1, 2, 3, 8, 9, 10, 255, 256, 257, 258, 65536, 65538, 1 << 24, 1<<24 + 2, 1<<31 + 2, 1<<32 - 1} {
		checkWord(0, word, changedBoard(func(b *impl.Board) { b.Frames = word }))
		checkWord(1, word, changedBoard(func(b *impl.Board) { b.Cpus = word }))
	}
	for _, kind := range []int64{0, 1, 2, 128, 255} {
		for _, line := range []int64{0, 1, 6, 7, 8, 128, 255} {
			for _, port := range []int64{0, 1, 255, 256, 2047, 2048, 32768, 65535} {
				devices := []impl.Device{{Kind: kind, Line: line, Port: port}}
				checkWord(2, kind<<24|line<<16|port, changedBoard(func(b *impl.Board) { b.Devices = devices }))
			}
		}
	}
}

func TestP42BoardOfGivesABoardBack(t *testing.T) {
	rng := rand.New(rand.NewSource(4242))
	counts := map[int]int{}
	for n := range 3000 {
		what := fmt.Sprintf("board %d", n)
		b := randomBoard(rng)
		tables := checkTablesOf(t, what, b)
		checkBoardRead(t, what, checkBoardOf(t, what, tables), impl.BoardRead{Good: true, Board: b})
		// They come back through a memory, too.
		at := 4 * rng.Int63n(30)
		read := impl.ReadTables(impl.PutTables(emptyMemory(1), at, tables), at)
		checkBoardRead(t, what+": through a memory", impl.BoardOf(read.Tables), impl.BoardRead{Good: true, Board: b})
		counts[len(b.Devices)]++
		// With one bit another one they are another board's, or none.
		other := slices.Clone(tables)
		if table := &other[rng.Intn(3)]; len(table.Body) > 0 {
			table.Body = otherText(table.Body, rng.Intn(len(table.Body)), 1<<rng.Intn(8))
			got := checkBoardOf(t, what+": another bit", other)
			if got.Good && sameBoard(got.Board, b) {
				t.Errorf("%s: other tables are the same board's", what)
			}
		}
	}
	if len(counts) != 17 {
		t.Errorf("there were boards of %v Devices", counts)
	}
}

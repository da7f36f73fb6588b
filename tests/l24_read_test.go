package tests

import (
	"fmt"
	"math/rand"
	"slices"
	"strings"
	"testing"

	"loop.example/g00038/impl"
)

// textKind is a call that reads a text: a text that is right, one that is spoilt with its sums made right again, and what the
// call reads of it: whether it has no code then, and whether what was read is right of its kind (with a code: is nothing).
type textKind struct {
	right func(rng *rand.Rand) string
	mend  func(text string) string
	read  func(text string) (taken bool, isRight bool)
}

// spoiltText changes a byte, most of the time, or some, or the length.
func spoiltText(rng *rand.Rand, text string) string {
	if text == "" {
		return randomBytes(rng, rng.Intn(4))
	}
	at := rng.Intn(len(text))
	if rng.Intn(3) == 0 {
		at = rng.Intn(min(len(text), 40))
	}
	switch rng.Intn(10) {
	case 0:
		return text[:at]
	case 1:
		return text[:at] + text[at+1:]
	case 2:
		return text[:at] + randomBytes(rng, 1+rng.Intn(4)) + text[at:]
	case 3:
		return text + text[:at]
	case 4:
		return otherText(otherText(text, at, byte(1+rng.Intn(255))), rng.Intn(len(text)), byte(1)<<rng.Intn(8))
	case 5:
		return otherText(text, at, byte(1+rng.Intn(255)))
	}
	return otherText(text, at, byte(1)<<rng.Intn(8))
}

// checkTexts holds what a call reads of texts that are right, that are right but for a byte, and that are at random.
func checkTexts(t *testing.T, kind textKind, count int, leastSpoilt int) {
	t.Helper()
	rng := rand.New(rand.NewSource(2451))
	taken := 0
	see := func(text string) bool {
		isTaken, isRight := kind.read(text)
		if !isRight {
			t.Fatalf("%.400q (%d bytes): taken %v, and not right", text, len(text), isTaken)
		}
		return isTaken
	}
	for range count {
		text := kind.right(rng)
		if !see(text) {
			t.Fatalf("%.400q (%d bytes) is right, and not taken", text, len(text))
		}
		other := spoiltText(rng, text)
		texts := []string{other, spoiltText(rng, other), randomBytes(rng, rng.Intn(60)), text[:len(text)/2] + randomBytes(rng, len(text)-len(text)/2)}
		if kind.mend != nil {
			texts = append(texts, kind.mend(other), kind.mend(texts[1]), kind.mend(texts[3]))
		}
		for _, text := range texts {
			if see(text) {
				taken++
			}
		}
	}
	for _, text := range []string{"", "\x00", strings.Repeat("\x00", 65536), strings.Repeat("a", 65536), strings.Repeat("\x00", 65537)} {
		see(text)
	}
	if taken < leastSpoilt {
		t.Errorf("but %d texts that were spoilt were taken", taken)
	}
}

// resumWith makes the last word of a text the sum of what stands ahead of it.
func resumWith(seed uint64) func(text string) string {
	return func(text string) string {
		ahead := text[:max(0, len(text)-4)]
		return ahead + fourBytes(quickMix(ahead, seed))
	}
}

func TestP51Instructions(t *testing.T) {
	t.Parallel()
	instrs := everyInstr()
	some := func(rng *rand.Rand) impl.Instr { return instrs[rng.Intn(len(instrs))] }
	text := func(rng *rand.Rand) string { return impl.InstrText(some(rng)) }
	checkTexts(t, textKind{right: text, read: func(text string) (bool, bool) {
		got := impl.ReadInstr(text)
		if !got.Good {
			return false, got.Instr == impl.Instr{}
		}
		return true, impl.InstrFault(got.Instr) == impl.OK && impl.InstrText(got.Instr) == text
	}}, 6000, 300)
	word := func(rng *rand.Rand) string { return impl.PutWord(impl.Encode(some(rng))) }
	checkTexts(t, textKind{right: word, read: func(text string) (bool, bool) {
		read := impl.GetWord(text, 0)
		got := impl.Decode(read.Num)
		if !read.Good || !got.Good {
			return false, read.Good || read.Num == 0
		}
		return true, isPlainWord(read.Num) && impl.InstrFault(got.Instr) == impl.OK && impl.Encode(got.Instr) == read.Num
	}}, 6000, 300)
}

func TestP51Programs(t *testing.T) {
	t.Parallel()
	instrs := everyInstr()
	program := func(rng *rand.Rand) string {
		lines := []string{"top:", ".word -5", ".text \"a b\"", ".space 3", "# whatever", " eq r1, r2, @top", "\thigh r3, @end", "", "jump r1, r0, @top  "}
		for range rng.Intn(12) {
			lines = append(lines, impl.InstrText(instrs[rng.Intn(len(instrs))]))
		}
		rng.Shuffle(len(lines), func(a int, b int) { lines[a], lines[b] = lines[b], lines[a] })
		return strings.Join(append(lines, "end:", "halt"), "\n")
	}
	checkTexts(t, textKind{right: program, read: func(text string) (bool, bool) {
		got := impl.Assemble(text, 64)
		if got.Code != impl.OK {
			return false, len(got.Words) == 0
		}
		wrong := slices.ContainsFunc(got.Words, func(word int64) bool { return !isPlainWord(word) })
		return true, !wrong && len(got.Words) <= 1000 && got.Line == 0
	}}, 2000, 200)
}

func TestP51Hexadecimals(t *testing.T) {
	t.Parallel()
	digits := func(rng *rand.Rand) string { return impl.Hex(randomBytes(rng, 1+rng.Intn(20))) }
	checkTexts(t, textKind{right: digits, read: func(text string) (bool, bool) {
		got := impl.UnHex(text)
		return got != "", got == "" || impl.Hex(got) == text
	}}, 4000, 200)
}

// mapsAreRight asks for what chapter 4 says of what a table maps: rising, at pages, with flags that a map may have.
func mapsAreRight(maps []impl.PageMap) bool {
	behind := int64(0)
	for _, p := range maps {
		size := int64(256)
		if p.Large {
			size *= 32
		}
		if p.Va < behind || p.Va%size != 0 || p.Va+size > impl.MaxVa || !among(p.Frame, 0, 1<<24-1) || p.Flags&^(flagR|flagW|flagX|flagU|flagG) != 0 {
			return false
		}
		behind = p.Va + size
	}
	return true
}

func TestP51MapsOfMemory(t *testing.T) {
	t.Parallel()
	mem := func(rng *rand.Rand) string { return randomTables(rng, 1+rng.Intn(6)) }
	checkTexts(t, textKind{right: mem, read: func(text string) (bool, bool) {
		maps := impl.ReadMaps(text, 0)
		return plainMemRight(text), mapsAreRight(maps) && (plainMemRight(text) || len(maps) == 0)
	}}, 700, 300)
	// What was read of tables that were made by MapPages, and changed by a byte, may be mapped again, but for frames that no map may have.
	rng := rand.New(rand.NewSource(2452))
	again := 0
	for range 700 {
		made := impl.MapPages(emptyMemory(12), 0, randomMaps(rng, 64, 10), []int64{1, 2, 3, 4, 5, 6, 7, 8, 9, 10, 11})
		maps := impl.ReadMaps(otherText(made.Mem, rng.Intn(3072), byte(1)<<rng.Intn(8)), 0)
		if made.Code != impl.OK || slices.ContainsFunc(maps, func(p impl.PageMap) bool {
			return p.Frame > 1023 || p.Large && p.Frame%32 != 0 || p.Flags&(flagR|flagW|flagX) == 0
		}) {
			continue
		}
		next := impl.MapPages(emptyMemory(33), 32, maps, []int64{0, 1, 2, 3, 4, 5, 6, 7, 8, 9, 10, 11, 12, 13, 14, 15, 16, 17, 18, 19, 20, 21, 22, 23, 24, 25, 26, 27, 28, 29, 30, 31})
		checkNumber(t, "mapped again", next.Code, impl.OK)
		checkMaps(t, "read again", impl.ReadMaps(next.Mem, 32), maps)
		again++
	}
	if again < 200 {
		t.Errorf("but %d were mapped again", again)
	}
}

func TestP51ImagesAndDisks(t *testing.T) {
	t.Parallel()
	image := func(rng *rand.Rand) string {
		return impl.PackImage(randomImage(rng, "some-1", "", 1+rng.Intn(6), rng.Intn(3), 50))
	}
	checkTexts(t, textKind{right: image, mend: resumWith(7), read: func(text string) (bool, bool) {
		got := impl.UnpackImage(text)
		if got.Code != impl.OK {
			return false, sameImage(got.Image, impl.Image{})
		}
		return true, impl.ImageFault(got.Image) == impl.OK && plainImageRight(got.Image) && impl.PackImage(got.Image) == text
	}}, 2500, 500)
	disk := func(rng *rand.Rand) string {
		return impl.MakeBoot(randomWords(rng, 1+rng.Intn(40)), 4*rng.Int63n(100), rng.Int63n(1<<32))
	}
	checkTexts(t, textKind{right: disk, read: func(text string) (bool, bool) {
		got := impl.Boot(text, worldBoard())
		if got.Code != impl.OK {
			return false, plainNoMachine(got.Machine) && len(got.Regs) == 0
		}
		words := isPlainWord(got.Regs[0]) && isPlainWord(got.Regs[1])
		return true, impl.MachineFault(got.Machine) == impl.OK && len(got.Machine.Mem) == 1536 && len(got.Regs) == 2 && words
	}}, 2500, 200)
}

func TestP51Frames(t *testing.T) {
	t.Parallel()
	frame := func(rng *rand.Rand) string {
		f, key, from, to := randomWrap(rng)
		f.Text = f.Text[:min(len(f.Text), 40)]
		return impl.WrapFrame(f, key, from, to)
	}
	checkTexts(t, textKind{right: frame, mend: resumWith(51), read: func(text string) (bool, bool) {
		got := impl.UnwrapFrame(text)
		if got.Code != impl.OK {
			return false, got == impl.FrameRead{Code: got.Code}
		}
		numbers := among(got.Key, 0, 1<<24-1) && isPlainWord(got.From) && isPlainWord(got.To)
		return true, numbers && impl.FrameFault(got.Frame) == impl.OK && impl.WrapFrame(got.Frame, got.Key, got.From, got.To) == text
	}}, 4000, 3000)
}

// isRestored tells whether a machine that was read is right, or, with a code, none.
func isRestored(got impl.Restored) (taken bool, isRight bool) {
	if got.Code != impl.OK {
		return false, plainNoMachine(got.Machine)
	}
	return true, impl.MachineFault(got.Machine) == impl.OK && got.At == 0
}

func TestP51Machines(t *testing.T) {
	t.Parallel()
	machine := func(rng *rand.Rand) string { return plainPackMachine(talkMachine(rng)) }
	checkTexts(t, textKind{right: machine, mend: resumWith(61), read: func(text string) (bool, bool) {
		got := impl.UnpackMachine(text)
		taken, isRight := isRestored(got)
		return taken, isRight && (!taken || impl.PackMachine(got.Machine) == text)
	}}, 1200, 500)
}

func TestP51Deltas(t *testing.T) {
	t.Parallel()
	a := impl.NewMachine(filledMemory(5))
	delta := func(rng *rand.Rand) string {
		b := talkMachine(rng)
		b.Mem = a.Mem
		for range rng.Intn(3) {
			b.Mem = otherText(b.Mem, rng.Intn(1280), byte(1+rng.Intn(255)))
		}
		return plainDelta(a, b)
	}
	checkTexts(t, textKind{right: delta, mend: func(text string) string {
		begin := min(9, len(text))
		return text[:begin] + resumWith(61)(text[begin:])
	}, read: func(text string) (bool, bool) {
		got := impl.ApplyDelta(a, text)
		taken, isRight := isRestored(got)
		return taken, isRight && (!taken || len(got.Machine.Mem) == 1280)
	}}, 1200, 500)
}

func TestP51Events(t *testing.T) {
	t.Parallel()
	events := func(rng *rand.Rand) string {
		list := randomEvents(rng, rng.Int63n(100), 100, 8)
		return impl.PackEvents(append(list, inEvent(1<<40, 0, 1)))
	}
	checkTexts(t, textKind{right: events, read: func(text string) (bool, bool) {
		got := impl.UnpackEvents(text)
		return len(got) > 0, impl.EventsFault(got) == impl.OK && (len(got) == 0 || impl.PackEvents(got) == text)
	}}, 4000, 500)
}

func TestP51TablesAndBoards(t *testing.T) {
	t.Parallel()
	firm := func(rng *rand.Rand) string {
		return impl.PutTables(emptyMemory(6), 0, impl.TablesOf(randomBoard(rng)))
	}
	mend := func(text string) string {
		if len(text) < 24 {
			return text
		}
		text = text[:20] + fourBytes(-wordSum(text[:20])) + text[24:]
		for n := range int64(3) {
			place := wordAt(text, 8+4*n)
			if !within(text, place, 8) || !within(text, place, wordAt(text, place+4)>>16) {
				continue
			}
			size := max(8, wordAt(text, place+4)>>16)
			if within(text, place, size) {
				sum := byteSum(text[place : place+size])
				text = putText(text, place+4, string([]byte{text[place+4] - byte(sum)}))
			}
		}
		return text
	}
	boards := 0
	checkTexts(t, textKind{right: firm, mend: mend, read: func(text string) (bool, bool) {
		got := impl.ReadTables(text, 0)
		if got.Code != impl.OK {
			return false, len(got.Tables) == 0
		}
		wrong := slices.ContainsFunc(got.Tables, func(table impl.FirmTable) bool { return !plainTableRight(table) })
		known := impl.BoardOf(got.Tables)
		if !known.Good {
			return true, !wrong && sameBoard(known.Board, impl.Board{})
		}
		boards++
		return true, !wrong && impl.BoardFault(known.Board) == impl.OK && slices.Equal(impl.TablesOf(known.Board), got.Tables)
	}}, 2500, 1500)
	if boards < 4000 {
		t.Errorf("but %d boards were known", boards)
	}
}

func TestP51LinesOfAManager(t *testing.T) {
	t.Parallel()
	vm := func(rng *rand.Rand) string { return plainVmText(randomVm(rng, eightTenants())) }
	checkTexts(t, textKind{right: vm, read: func(text string) (bool, bool) {
		got := impl.ReadVm(text)
		if got == (impl.Vm{}) {
			return false, true
		}
		return true, plainVm(eightTenants(), got) && impl.VmText(got) == text && got.Node == "" && got.Epoch == 0
	}}, 5000, 200)
	g := sampleManager()
	line := func(rng *rand.Rand) string {
		return fmt.Sprintf("V2 %d %s", 1000+rng.Int63n(1000), []string{"place " + vm(rng), "stop db1", "move db1 b1", "tick 130", "drain a1", "step", "cancel 1", "ready b2"}[rng.Intn(8)])
	}
	checkTexts(t, textKind{right: line, read: func(text string) (bool, bool) {
		got := impl.RunManager(g, []string{text})
		taken := got.Code == impl.OK && len(got.Replies) == 1 && !strings.HasSuffix(got.Replies[0], " syntax")
		return taken, impl.ManagerFault(got.Manager) == impl.OK && plainManagerRight(got.Manager)
	}}, 1200, 100)
}

// chainIsRight asks for what chapter 11 says of a chain without a code.
func chainIsRight(mem string, bufs []impl.Buf) bool {
	writes := false
	for _, b := range bufs {
		if !within(mem, b.At, b.Len) || writes && !b.Write {
			return false
		}
		writes = b.Write
	}
	return len(bufs) <= 32
}

func TestP51ChainsOfMemory(t *testing.T) {
	t.Parallel()
	rng := rand.New(rand.NewSource(2453))
	split, packed := 0, 0
	for range 12000 {
		mem, q := randomSplit(rng)
		mem = otherText(mem, rng.Intn(len(mem)), byte(1)<<rng.Intn(8))
		taken := impl.TakeChain(mem, q)
		if taken.Code == impl.OK {
			split++
			checkEqual(t, "a split queue's chain is right", chainIsRight(mem, taken.Bufs) && among(taken.Head, 0, q.Size-1), true)
			checkNumber(t, "its queue", impl.QueueFault(mem, taken.Queue), impl.OK)
		}
		mem, p := randomRing(rng)
		mem = otherText(mem, rng.Intn(len(mem)), byte(1)<<rng.Intn(8))
		got := impl.TakePacked(mem, p)
		if got.Code == impl.OK {
			packed++
			checkEqual(t, "a packed queue's chain is right", chainIsRight(mem, got.Bufs) && among(got.Id, 0, 65535) && among(got.Count, 1, p.Size), true)
		}
	}
	if split < 500 || packed < 500 {
		t.Errorf("but %d and %d chains were taken", split, packed)
	}
}

// What a world takes as Saved is what its guest begins from: a right machine of six frames.
func TestP51WhatWasSavedOfGuests(t *testing.T) {
	t.Parallel()
	w := settled()
	g := guestIn(&w, "down")
	saved := func(rng *rand.Rand) string {
		m := talkMachine(rng)
		m.Mem = (m.Mem + emptyMemory(6))[:1536]
		return plainPackMachine(m)
	}
	checkTexts(t, textKind{right: saved, mend: resumWith(61), read: func(text string) (bool, bool) {
		g.Saved = text
		got := impl.StartGuest(w, "down")
		if text == "" {
			// Its disk counts, of which there is none.
			return false, got.Code == impl.ErrSyntax
		}
		if got.Code != impl.OK {
			return false, got.Code == impl.ErrForm && impl.WorldFault(w) == impl.ErrForm && plainNoMachine(got.Machine)
		}
		return true, impl.MachineFault(got.Machine) == impl.OK && len(got.Machine.Mem) == 1536 && impl.PackMachine(got.Machine) == text
	}}, 700, 300)
}

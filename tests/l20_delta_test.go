package tests

import (
	"fmt"
	"math/rand"
	"slices"
	"strings"
	"testing"

	"loop.example/g00038/impl"
)

// changedFrames is m with a byte more in each of these frames, and in other respects another machine, too.
func changedFrames(m impl.Machine, frames ...int64) impl.Machine {
	b := copyMachine(m)
	b.Pc, b.Count, b.Trace, b.Lines = 4444, 7777, 9999, 1
	b.Regs[5], b.Ctl[impl.CtlScratch], b.Vec[3] = 55, 66, 77
	b.Ins, b.Outs = nil, append(b.Outs, impl.PortValue{Port: 1, Value: 11})
	for _, number := range frames {
		b.Mem = otherText(b.Mem, int(256*number+number%200), 1)
	}
	return b
}

// packedBegins is where the packed machine of a delta begins.
func packedBegins(a impl.Machine) int { return 8 + (len(a.Mem)/256+7)/8 }

func TestDeltaOfKnownBytes(t *testing.T) {
	a := impl.NewMachine(emptyMemory(2))
	checkText(t, "two empty frames", impl.DeltaOf(a, a), "VD1\n\x6f\x53\x7e\x2b\x00"+impl.PackMachine(a))
	b := impl.NewMachine(putAt(a.Mem, 256, "x"))
	checkText(t, "one that differs", impl.DeltaOf(a, b), "VD1\n\x6f\x53\x7e\x2b\x02"+impl.PackMachine(b))
	all := impl.NewMachine(emptyMemory(256))
	checkText(t, "256 empty frames", impl.DeltaOf(all, all), "VD1\n\x15\x57\x84\x6f"+bytes0(32)+impl.PackMachine(all))
	c := impl.NewMachine(putAt(filledMemory(2), 3, "x"))
	hollow := copyMachine(c)
	hollow.Mem = c.Mem[:256] + emptyMemory(1)
	text := impl.DeltaOf(impl.NewMachine(filledMemory(2)), c)
	checkText(t, "other frames are left out", text[8:], "\x01"+impl.PackMachine(hollow))
}

func TestDeltaOfEqualMachines(t *testing.T) {
	for what, m := range someMachines() {
		for _, b := range []impl.Machine{m, changedFrames(m)} {
			text := checkDeltaBack(t, what, m, b)
			hollow := copyMachine(b)
			hollow.Mem = emptyMemory(len(m.Mem) / 256)
			checkText(t, what+": the set and what is packed", text[8:], bytes0(packedBegins(m)-8)+impl.PackMachine(hollow))
		}
	}
}

func TestDeltaOfSomeFrames(t *testing.T) {
	for _, count := range []int{1, 2, 7, 8, 9, 16, 17} {
		m := impl.NewMachine(filledMemory(count))
		for number := range int64(count) {
			text := checkDeltaBack(t, fmt.Sprintf("frame %d of %d", number, count), m, changedFrames(m, number))
			checkNumber(t, "length", int64(len(text)), int64(packedBegins(m)+224+8+(count+7)/8+256))
		}
		checkDeltaBack(t, fmt.Sprintf("the ends of %d", count), m, changedFrames(changedFrames(m, 0), int64(count-1)))
		all := changedFrames(m, inARow(0, count)...)
		text := checkDeltaBack(t, fmt.Sprintf("all of %d", count), m, all)
		checkNumber(t, "length of all", int64(len(text)), int64(packedBegins(m)+224+8+(count+7)/8+256*count))
	}
}

// A frame that becomes all bytes 0 is in the delta's set, and not in that of its packed machine; one that was so is as any other.
func TestDeltaOfFramesThatAreAllZero(t *testing.T) {
	m := impl.NewMachine(filledMemory(9))
	for number := range int64(9) {
		b := copyMachine(m)
		b.Mem = putAt(b.Mem, int(256*number), emptyMemory(1))
		text := checkDeltaBack(t, fmt.Sprintf("frame %d goes", number), m, b)
		checkText(t, "the set", text[8:10], impl.PutBit(bytes0(2), number, true))
		checkText(t, "the packed machine", text[10:], impl.PackMachine(impl.NewMachine(emptyMemory(9))))
		text = checkDeltaBack(t, fmt.Sprintf("frame %d comes", number), b, m)
		checkText(t, "the set", text[8:10], impl.PutBit(bytes0(2), number, true))
		checkNumber(t, "length", int64(len(text)), 10+224+2+256)
	}
	empty := impl.NewMachine(emptyMemory(9))
	checkNumber(t, "all go", int64(len(checkDeltaBack(t, "all go", m, empty))), 10+224+2)
	checkNumber(t, "all come", int64(len(checkDeltaBack(t, "all come", empty, m))), 10+224+2+9*256)
}

// A delta may be too long where its packed machine is not, and may be there where the newer machine has no text.
func TestDeltaUpToMaxBytes(t *testing.T) {
	for _, count := range []int64{255, 256} {
		a := impl.NewMachine(filledMemory(int(count)))
		b := copyMachine(a)
		for number := range int64(254) {
			b.Mem = otherText(b.Mem, int(256*number+number%256), 3)
		}
		for ports := range 30 {
			b.Ins = make([]impl.PortValue, ports)
			// 8 and 32 bytes ahead, 220 and 32 of the packed machine, its frames and sum.
			size := 8 + 32 + 220 + 8*ports + 32 + 254*256 + 4
			text := checkDelta(t, fmt.Sprintf("254 of %d frames, %d ports", count, ports), a, b)
			if size > 65536 {
				checkText(t, fmt.Sprintf("%d ports", ports), text, "")
				continue
			}
			checkNumber(t, "length", int64(len(text)), int64(size))
			checkDeltaBack(t, "as long as may be", a, b)
		}
		b.Mem, b.Ins = otherText(b.Mem, 254*256, 1), nil
		checkText(t, "255 frames, whose packed machine has a text", checkDelta(t, "255", a, b), "")
	}
	a := impl.NewMachine(filledMemory(256))
	b := changedFrames(a, 0, 255)
	b.Mem = putAt(b.Mem, 120*256, filledMemory(1))
	checkText(t, "a machine without a text", impl.PackMachine(b), "")
	checkDeltaBack(t, "its delta", a, b)
	all := changedFrames(a, inARow(0, 256)...)
	checkText(t, "all of 256 frames", checkDelta(t, "all", a, all), "")
	for number := range int64(4) {
		all.Mem = putAt(all.Mem, int(256*number), frameIn(a.Mem, number))
	}
	checkDeltaBack(t, "all but 4", a, all)
}

func TestDeltaOfWrongMachines(t *testing.T) {
	right := sampleMachine(0)
	if impl.DeltaOf(right, right) == "" {
		t.Errorf("right machines have no delta")
	}
	for _, c := range wrongChanges() {
		m := sampleMachine(0)
		c.change(&m)
		checkText(t, c.what+": the older one", impl.DeltaOf(m, right), "")
		checkText(t, c.what+": the newer one", impl.DeltaOf(right, m), "")
		checkText(t, c.what+": both", impl.DeltaOf(m, m), "")
		checkRestoredCode(t, c.what+": applied to it", impl.ApplyDelta(m, impl.DeltaOf(right, right)), impl.ErrForm, 0)
	}
	for _, counts := range [][2]int{{1, 2}, {2, 1}, {8, 9}, {9, 8}, {1, 256}, {255, 256}, {256, 1}} {
		a, b := impl.NewMachine(emptyMemory(counts[0])), impl.NewMachine(emptyMemory(counts[1]))
		checkText(t, fmt.Sprintf("%d and %d frames", counts[0], counts[1]), impl.DeltaOf(a, b), "")
	}
	checkText(t, "zero machines", impl.DeltaOf(impl.Machine{}, impl.Machine{}), "")
}

// deltaMachines are an older one and a newer one, two of whose nine frames differ.
func deltaMachines() (a impl.Machine, b impl.Machine) {
	a = impl.NewMachine(filledMemory(9))
	return a, changedFrames(a, 3, 8)
}

func TestApplyDeltaThatEndsEarly(t *testing.T) {
	a, b := deltaMachines()
	text := impl.DeltaOf(a, b)
	for cut := range len(text) {
		at := 0
		if cut >= 14 {
			at = cut - 10
		}
		checkRestoredCode(t, fmt.Sprintf("%d bytes", cut), checkApply(t, "cut", a, text[:cut]), impl.ErrSyntax, at)
	}
	one := impl.NewMachine(filledMemory(1))
	for _, short := range []string{"", "V", "VD1", "VD1\n", "VD1\n\x00\x00\x00", "VD1\n\x00\x00\x00\x00", "VD1\n\x00\x00\x00\x00\x00", "VD1\n\x00\x00\x00\x00\x00VM1"} {
		checkRestoredCode(t, fmt.Sprintf("%q", short), checkApply(t, "short", one, short), impl.ErrSyntax, 0)
	}
	for _, begin := range []string{"VD2\n", "VD1 ", "VM1\n", "VE1\n", "vd1\n", "\x00\x00\x00\x00"} {
		checkRestoredCode(t, fmt.Sprintf("%q", begin), checkApply(t, "begin", a, begin+text[4:]), impl.ErrSyntax, 0)
	}
	checkRestoredCode(t, "without its head", checkApply(t, "head", a, text[10:]), impl.ErrSyntax, 0)
}

// All codes of UnpackMachine are told with At counted from where the packed machine begins.
func TestApplyDeltaTellsTheCodesOfThePackedMachine(t *testing.T) {
	a, b := deltaMachines()
	text := impl.DeltaOf(a, b)
	head, packed := text[:10], text[10:]
	end := len(packed)
	for what, c := range map[string]struct {
		packed string
		code   int64
		at     int
	}{
		"another beginning":     {putAt(packed, 3, "\r"), impl.ErrSyntax, 0},
		"no frames":             {putAt(packed, 4, fourBytes(0)), impl.ErrSyntax, 4},
		"too many frames":       {putAt(packed, 4, fourBytes(257)), impl.ErrSyntax, 4},
		"too many Ins":          {putAt(packed, 8, fourBytes(101)), impl.ErrSyntax, 8},
		"too many Outs":         {putAt(packed, 12, fourBytes(101)), impl.ErrSyntax, 12},
		"something behind":      {packed + "\x00", impl.ErrSyntax, end},
		"another sum":           {otherText(packed, end-1, 1), impl.ErrSum, end - 4},
		"another byte":          {otherText(packed, 50, 1), impl.ErrSum, end - 4},
		"no right machine":      {resummed(putAt(packed, 20, fourBytes(2))), impl.ErrForm, 0},
		"not what is packed":    {resummed(putAt(packed, 229, "\x03")), impl.ErrForm, 0},
		"a frame that is 0":     {withMachineSum(packed[:228] + "\x18\x01" + packed[230:486] + emptyMemory(1) + packed[486:742]), impl.ErrForm, 0},
		"as it is":              {packed, impl.OK, 0},
		"something else of b's": {resummed(putAt(packed, 16, fourBytes(1234))), impl.OK, 0},
	} {
		for _, ahead := range []string{head, putAt(head, 4, "abcd"), putAt(head, 8, "\xff\xff"), putAt(head, 4, bytes0(6))} {
			got := checkApply(t, what, a, ahead+c.packed)
			if c.code != impl.OK {
				checkRestoredCode(t, what, got, c.code, c.at)
			}
		}
		checkNumber(t, what, impl.ApplyDelta(a, head+c.packed).Code, c.code)
	}
}

func TestApplyDeltaToAnotherMemory(t *testing.T) {
	a, b := deltaMachines()
	text := impl.DeltaOf(a, b)
	for at := range len(a.Mem) {
		other := copyMachine(a)
		other.Mem = otherText(a.Mem, at, byte(1+at%255))
		checkRestoredCode(t, fmt.Sprintf("byte %d", at), impl.ApplyDelta(other, text), impl.ErrConflict, 4)
	}
	for by := range 4 {
		checkRestoredCode(t, "another sum", checkApply(t, "sum", a, otherText(text, 4+by, 1)), impl.ErrConflict, 4)
	}
	checkRestoredCode(t, "the newer one", checkApply(t, "newer", b, text), impl.ErrConflict, 4)
	same := changedFrames(a)
	checkRestored(t, "the memory alone counts", checkApply(t, "memory", same, text), impl.Restored{Machine: b})
}

// The set of a delta is as long as the older machine's frames ask for: with another number of frames it is that number
// which is told, or the packed machine does not begin so.
func TestApplyDeltaToAnotherNumberOfFrames(t *testing.T) {
	for _, count := range []int{9, 15, 16} {
		a := impl.NewMachine(filledMemory(count))
		text := impl.DeltaOf(a, changedFrames(a, 1))
		for _, other := range []int{9, 10, 15, 16} {
			if other != count {
				got := checkApply(t, "frames", impl.NewMachine(filledMemory(other)), text)
				checkRestoredCode(t, fmt.Sprintf("%d and %d frames", count, other), got, impl.ErrConflict, 4)
			}
		}
		for _, other := range []int{1, 8, 17, 256} {
			got := checkApply(t, "frames", impl.NewMachine(filledMemory(other)), text)
			checkRestoredCode(t, fmt.Sprintf("%d and %d frames", count, other), got, impl.ErrSyntax, 0)
		}
	}
	// The sum is right, and the number of frames alone is another one.
	a := impl.NewMachine(filledMemory(2))
	text := "VD1\n" + fourBytes(quickMix(a.Mem, 62)) + "\x00"
	for _, count := range []int{1, 3, 8, 9} {
		got := checkApply(t, "frames", a, text+impl.PackMachine(impl.NewMachine(emptyMemory(count))))
		checkRestoredCode(t, fmt.Sprintf("packed: %d frames", count), got, impl.ErrConflict, 4)
	}
	checkNumber(t, "packed: 2 frames", checkApply(t, "frames", a, text+impl.PackMachine(impl.NewMachine(emptyMemory(2)))).Code, impl.OK)
}

func TestApplyDeltaWithAnotherSet(t *testing.T) {
	a, b := deltaMachines()
	text := impl.DeltaOf(a, b)
	for number := int64(9); number < 16; number++ {
		set := impl.PutBit(text[8:10], number, true)
		checkRestoredCode(t, fmt.Sprintf("a bit of frame %d", number), checkApply(t, "bit", a, putAt(text, 8, set)), impl.ErrForm, 8)
	}
	for _, number := range []int64{3, 8} {
		set := impl.PutBit(text[8:10], number, false)
		checkRestoredCode(t, fmt.Sprintf("without frame %d", number), checkApply(t, "bit", a, putAt(text, 8, set)), impl.ErrForm, 8)
	}
	checkRestoredCode(t, "without any", checkApply(t, "none", a, putAt(text, 8, bytes0(2))), impl.ErrForm, 8)
	checkRestoredCode(t, "all bits", checkApply(t, "all", a, putAt(text, 8, "\xff\xff")), impl.ErrForm, 8)
	for _, number := range []int64{0, 1, 2, 4, 5, 6, 7} {
		want := copyMachine(b)
		want.Mem = putAt(b.Mem, int(256*number), emptyMemory(1))
		set := impl.PutBit(text[8:10], number, true)
		checkRestored(t, fmt.Sprintf("and frame %d", number), checkApply(t, "more", a, putAt(text, 8, set)), impl.Restored{Machine: want})
	}
	hollow := checkApply(t, "all frames", a, putAt(text, 8, "\xff\x01")).Machine.Mem
	checkText(t, "all frames", hollow, emptyMemory(3)+frameIn(b.Mem, 3)+emptyMemory(4)+frameIn(b.Mem, 8))
}

// Where several things are wrong, the first one is told in the order of the document.
func TestApplyDeltaTellsTheFirstFault(t *testing.T) {
	a, b := deltaMachines()
	text := impl.DeltaOf(a, b)
	wrong, other := copyMachine(a), copyMachine(a)
	wrong.Mode, other.Mem = 2, otherText(a.Mem, 5, 1)
	long := text + bytes0(65537-len(text))
	badSet := putAt(text, 8, "\x00\xff")
	badSum := otherText(badSet, len(text)-1, 1)
	badHead := putAt(badSum, 0, "VM")
	for _, c := range []struct {
		what string
		m    impl.Machine
		text string
		code int64
		at   int
	}{
		{"too long, a wrong machine", wrong, long, impl.ErrSize, 0},
		{"too long", a, long, impl.ErrSize, 0},
		{"as long as may be", a, long[:65536], impl.ErrSyntax, len(text) - 10},
		{"a wrong machine, a text that does not begin so", wrong, badHead, impl.ErrForm, 0},
		{"a wrong machine, nothing else", wrong, text, impl.ErrForm, 0},
		{"a wrong machine, no text", wrong, "", impl.ErrForm, 0},
		{"it does not begin so, and all behind it", other, badHead, impl.ErrSyntax, 0},
		{"the packed machine's sum, and all behind it", other, badSum, impl.ErrSum, len(text) - 14},
		{"another memory, and the set", other, badSet, impl.ErrConflict, 4},
		{"the set", a, badSet, impl.ErrForm, 8},
		{"nothing", a, text, impl.OK, 0},
	} {
		got := checkApply(t, c.what, c.m, c.text)
		checkNumbers(t, c.what+": Code, At", []int64{got.Code, got.At}, []int64{c.code, int64(c.at)})
	}
	checkRestoredCode(t, "a text of all sorts that is too long", impl.ApplyDelta(a, strings.Repeat("x", 100000)), impl.ErrSize, 0)
}

// A machine that runs is made anew from its deltas alone, each to the one ahead.
func TestP39OfABusyMachine(t *testing.T) {
	first := busyMachine(t)
	for _, pace := range []int64{1, 3, 10, 60} {
		machine, restored := first, first
		for done := int64(0); done < 240; done += pace {
			next := impl.RunMachine(machine, pace).Machine
			what := fmt.Sprintf("behind %d steps", done)
			text := checkDeltaBack(t, what, machine, next)
			got := impl.ApplyDelta(restored, text)
			checkNumber(t, what, got.Code, impl.OK)
			machine, restored = next, got.Machine
		}
		checkMachine(t, "in the end", restored, impl.RunMachine(first, 240).Machine)
	}
}

func TestP39OfRandomMachines(t *testing.T) {
	rng := rand.New(rand.NewSource(2039))
	kinds := map[int64]int{}
	for n := range 1200 {
		a := []func(*rand.Rand) impl.Machine{talkMachine, moveMachine, shadowMachine}[n%3](rng)
		b := impl.RunMachine(a, 1+rng.Int63n(120)).Machine
		if rng.Intn(4) == 0 {
			b.Mem = putAt(b.Mem, 256*rng.Intn(len(b.Mem)/256), emptyMemory(1))
		}
		what := fmt.Sprintf("machine %d", n)
		text := checkDeltaBack(t, what, a, b)
		other := copyMachine(a)
		other.Mem = otherText(a.Mem, rng.Intn(len(a.Mem)), byte(1+rng.Intn(255)))
		checkRestoredCode(t, what+": another memory", checkApply(t, what, other, text), impl.ErrConflict, 4)
		for range 10 {
			at := 4 + rng.Intn(min(len(text)-4, 60))
			spoilt := otherText(text, at, byte(1+rng.Intn(255)))
			if at >= packedBegins(a) && rng.Intn(2) == 0 {
				spoilt = text[:packedBegins(a)] + resummed(spoilt[packedBegins(a):])
			}
			got := checkApply(t, what+", spoilt", a, spoilt)
			kinds[got.Code]++
		}
		if t.Failed() {
			return
		}
	}
	for _, code := range []int64{impl.OK, impl.ErrForm, impl.ErrSyntax, impl.ErrConflict, impl.ErrSum} {
		if kinds[code] < 100 {
			t.Errorf("code %d came %d times", code, kinds[code])
		}
	}
}

func TestMachinesOfApplyDeltaAreNewMemory(t *testing.T) {
	a, b := deltaMachines()
	a.Ins = []impl.PortValue{{Port: 1, Value: 2}}
	b.Ins = slices.Clone(a.Ins)
	before := copyMachine(a)
	text := impl.DeltaOf(a, b)
	spoilMachine(impl.ApplyDelta(a, text).Machine)
	checkMachine(t, "what was handed in", a, before)
	checkRestored(t, "again", impl.ApplyDelta(a, text), impl.Restored{Machine: b})
}

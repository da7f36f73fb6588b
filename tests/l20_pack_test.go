package tests

import (
	"crypto/sha256"
	"encoding/hex"
	"fmt"
	"math/rand"
	"strings"
	"testing"

	"loop.example/g00038/impl"
)

// knownMachine is one whose text was made by another program.
func knownMachine() impl.Machine {
	mem := "\x01" + bytes0(255) + emptyMemory(6) + bytes0(255) + "\x07"
	for b := range 256 {
		mem += string([]byte{byte(b)})
	}
	m := impl.Machine{
		Pc: 0x12345678, State: impl.StateWait, Count: endCount - 1, Lines: 0x55, Trace: 2147483628, Mem: mem,
		Ctl:  []int64{31, 1, 2, 3, 4, 5, 6, 7, 0, 0, 255, 0},
		Ins:  []impl.PortValue{{Port: 2047, Value: allOn}, {Port: 3, Value: 4}},
		Outs: []impl.PortValue{{Port: 5, Value: 6}},
	}
	for n := range int64(16) {
		m.Regs = append(m.Regs, 0x01010101*n)
		m.Vec = append(m.Vec, allOn-n)
	}
	return m
}

func TestQuickMix(t *testing.T) {
	for _, text := range []string{"", "a", "VM1\n", filledMemory(1), strings.Repeat("\xff", 3000)} {
		for _, seed := range []int64{0, 61, 62} {
			checkNumber(t, fmt.Sprintf("%d bytes, seed %d", len(text), seed), quickMix(text, uint64(seed)), mixOf(text, seed))
		}
	}
}

func TestPackMachineOfKnownBytes(t *testing.T) {
	least := "VM1\n\x01" + bytes0(15) + "\x01" + bytes0(200) + "\x71\xa2\xef\x20"
	checkText(t, "one frame", impl.PackMachine(impl.NewMachine(emptyMemory(1))), least)
	checkRestored(t, "one frame", impl.UnpackMachine(least), impl.Restored{Machine: impl.NewMachine(emptyMemory(1))})
	text := impl.PackMachine(knownMachine())
	sum := sha256.Sum256([]byte(text))
	checkNumber(t, "length", int64(len(text)), 1018)
	checkText(t, "sum", hex.EncodeToString(sum[:]), "f3b6e52c8f14cd1bf9656656f30ce408758c508c7f479c4f2618efb06e4eb6f4")
	head := "VM1\n\x09\x00\x00\x00\x02\x00\x00\x00\x01\x00\x00\x00\x78\x56\x34\x12\x00\x00\x00\x00\x01\x00\x00\x00\xff\xff\xff\xff\xff\x00\x00\x00\x55\x00\x00\x00\xec\xff\xff\x7f"
	checkText(t, "numbers", text[:44], head)
	checkText(t, "ports and set", text[220:246], "\xff\x07\x00\x00\xff\xff\xff\xff\x03\x00\x00\x00\x04\x00\x00\x00\x05\x00\x00\x00\x06\x00\x00\x00\x81\x01")
	checkText(t, "the last word", text[1014:], "\xc9\x7e\xb1\x5f")
	checkMachineBack(t, "known", knownMachine())
}

// withFrames is a machine of so many frames, of which those that are told are not all bytes 0.
func withFrames(count int, isTold func(number int) bool) impl.Machine {
	m := impl.NewMachine(emptyMemory(1))
	m.Mem = ""
	for number := range count {
		one := []byte(emptyMemory(1))
		if isTold(number) {
			one[number*37%256] = byte(1 + number%255)
		}
		m.Mem += string(one)
	}
	return m
}

func always(int) bool { return true }

func never(int) bool { return false }

func TestPackMachineOfSomeFrames(t *testing.T) {
	for _, count := range []int{1, 2, 7, 8, 9, 15, 16, 17, 24, 25, 64, 254, 255} {
		text := checkMachineBack(t, fmt.Sprintf("%d frames, all told", count), withFrames(count, always))
		checkNumber(t, "length with all told", int64(len(text)), int64(224+(count+7)/8+256*count))
		text = checkMachineBack(t, fmt.Sprintf("%d frames, none told", count), withFrames(count, never))
		checkNumber(t, "length with none told", int64(len(text)), int64(224+(count+7)/8))
	}
	checkNumber(t, "length of 256 frames, none told", int64(len(checkMachineBack(t, "256", withFrames(256, never)))), 256)
}

// 255 frames that are told fit in just so, where nothing else is to be told.
func TestPackMachineUpToMaxBytes(t *testing.T) {
	checkNumber(t, "255 of 255", int64(len(checkMachineBack(t, "255 of 255", withFrames(255, always)))), 65536)
	for _, empty := range []int{0, 7, 8, 100, 248, 255} {
		what := fmt.Sprintf("all of 256 but %d", empty)
		m := withFrames(256, func(number int) bool { return number != empty })
		checkNumber(t, what, int64(len(checkMachineBack(t, what, m))), 65536)
		m.Ins = make([]impl.PortValue, 1)
		checkText(t, what+", and one of Ins", checkPackMachine(t, what, m), "")
	}
	checkText(t, "256 of 256", checkPackMachine(t, "256 of 256", withFrames(256, always)), "")
	for _, m := range []impl.Machine{withFrames(254, always), withFrames(256, func(number int) bool { return number > 1 })} {
		for ins := range 33 {
			m.Ins, m.Outs = make([]impl.PortValue, ins), make([]impl.PortValue, 32-ins)
			checkNumber(t, "254 told, and 32 ports", int64(len(checkMachineBack(t, "254 told", m))), 65536)
			m.Outs = make([]impl.PortValue, 33-ins)
			checkText(t, "254 told, and 33 ports", checkPackMachine(t, "254 told", m), "")
		}
	}
}

// Each frame of three bytes of the set, and the first one not at hand, is told or left out by itself.
func TestPackMachineTellsFramesThatAreNotAllZero(t *testing.T) {
	for _, count := range []int{17, 23, 24} {
		for number := range count {
			one := withFrames(count, func(n int) bool { return n == number })
			text := checkMachineBack(t, fmt.Sprintf("frame %d of %d alone", number, count), one)
			checkNumber(t, "length", int64(len(text)), 224+3+256)
			checkText(t, "the set", text[220:223], impl.PutBit(bytes0(3), int64(number), true))
			others := withFrames(count, func(n int) bool { return n != number })
			text = checkMachineBack(t, fmt.Sprintf("all of %d but frame %d", count, number), others)
			checkNumber(t, "length", int64(len(text)), int64(224+3+256*(count-1)))
		}
	}
	for at := range 256 {
		for _, b := range []string{"\x01", "\x80", "\xff", " ", "\n"} {
			m := impl.NewMachine(putAt(emptyMemory(3), 256+at, b))
			checkNumber(t, fmt.Sprintf("byte %d of a frame is %q", at, b), int64(len(checkMachineBack(t, "one byte", m))), 225+256)
		}
	}
}

func TestPackMachineOfCounts(t *testing.T) {
	for _, count := range []int64{0, 1, 255, 1<<31 - 1, 1 << 31, 1<<32 - 1, 1 << 32, 1<<32 + 1, 1<<33 - 1, 1<<39 + 5, endCount - 1, endCount} {
		m := impl.NewMachine(filledMemory(2))
		m.Count = count
		text := checkMachineBack(t, fmt.Sprintf("Count %d", count), m)
		checkNumbers(t, "its words", []int64{wordAt(text, 28), wordAt(text, 32)}, []int64{count % 4294967296, count / 4294967296})
	}
}

func TestPackMachineOfPorts(t *testing.T) {
	for _, ins := range []int{0, 1, 2, 99, 100} {
		for _, outs := range []int{0, 1, 2, 99, 100} {
			m := impl.NewMachine(filledMemory(2))
			for n := range ins {
				m.Ins = append(m.Ins, impl.PortValue{Port: int64(n * 20), Value: int64(n * 43000000)})
			}
			for n := range outs {
				m.Outs = append(m.Outs, impl.PortValue{Port: 2047 - int64(n), Value: allOn - int64(n)})
			}
			text := checkMachineBack(t, fmt.Sprintf("%d Ins, %d Outs", ins, outs), m)
			checkNumber(t, "length", int64(len(text)), int64(225+8*(ins+outs)+512))
		}
	}
}

func TestPackMachineAtBounds(t *testing.T) {
	for _, c := range rightChanges() {
		m := sampleMachine(0)
		c.change(&m)
		checkMachineBack(t, c.what, m)
	}
}

func TestPackMachineOfWrongMachines(t *testing.T) {
	checkText(t, "the zero machine", impl.PackMachine(impl.Machine{}), "")
	for _, c := range wrongChanges() {
		m := sampleMachine(0)
		c.change(&m)
		checkText(t, c.what, impl.PackMachine(m), "")
	}
}

// someMachines have texts of unlike kinds.
func someMachines() map[string]impl.Machine {
	ported := impl.NewMachine(emptyMemory(1))
	ported.Ins, ported.Outs = []impl.PortValue{{Port: 1, Value: 2}}, []impl.PortValue{{Port: 3, Value: 4}, {Port: 5, Value: 6}}
	return map[string]impl.Machine{
		"the least":   impl.NewMachine(emptyMemory(1)),
		"one frame":   impl.NewMachine(filledMemory(1)),
		"nine frames": withFrames(9, func(number int) bool { return number == 3 || number == 8 }),
		"ports":       ported,
		"known":       knownMachine(),
		"sample":      sampleMachine(77),
	}
}

func TestUnpackMachineThatEndsEarly(t *testing.T) {
	for what, m := range someMachines() {
		text := impl.PackMachine(m)
		for cut := range len(text) {
			at := cut
			if cut < 4 {
				at = 0
			}
			checkRestoredCode(t, fmt.Sprintf("%s: %d bytes", what, cut), impl.UnpackMachine(text[:cut]), impl.ErrSyntax, at)
		}
		for cut := 4; cut < len(text)-4; cut += 1 + cut/50 {
			checkUnpackMachine(t, fmt.Sprintf("%s: %d bytes and their sum", what, cut), withMachineSum(text[:cut]))
		}
	}
}

func TestUnpackMachineThatDoesNotBeginSo(t *testing.T) {
	text := impl.PackMachine(knownMachine())
	for _, begin := range []string{"", "V", "VM", "VM1", "x", "VM1 ", "VM1\r", "VM2\n", "vm1\n", "VD1\n", "VE1\n", "VM\n1", "\nVM1", "IMG1", "\x00\x00\x00\x00", " VM1\n"} {
		for _, behind := range []string{"", text[4:], "\xff", bytes0(300)} {
			if strings.HasPrefix(begin+behind, "VM1\n") {
				continue
			}
			checkRestoredCode(t, fmt.Sprintf("%q", begin), impl.UnpackMachine(begin+behind), impl.ErrSyntax, 0)
			checkRestoredCode(t, fmt.Sprintf("%q and a sum", begin), impl.UnpackMachine(withMachineSum("x"+begin+behind)), impl.ErrSyntax, 0)
		}
	}
}

// The first number that is none is told where it stands, whatever stands behind it.
func TestUnpackMachineOfNumbers(t *testing.T) {
	bounds := []map[int64]bool{
		{0: false, 1: true, 2: true, 255: true, 256: true, 257: false, 1 << 16: false, 1 << 31: false, allOn: false},
		{0: true, 1: true, 99: true, 100: true, 101: false, 256: false, 1 << 24: false, allOn: false},
		{0: true, 1: true, 99: true, 100: true, 101: false, 257: false, 1<<31 + 1: false, allOn: false},
	}
	for n, numbers := range bounds {
		at := 4 + 4*n
		for number, right := range numbers {
			head := ("VM1\n" + fourBytesEach([]int64{1, 0, 0}))[:at] + fourBytes(number)
			for _, behind := range []string{"", "\xff", bytes0(8), bytes0(60000), strings.Repeat("\xff", 5000)} {
				what := fmt.Sprintf("number %d is %d, %d bytes behind it", n, number, len(behind))
				got := checkUnpackMachine(t, what, head+behind)
				checkUnpackMachine(t, what+" and a sum", withMachineSum(head+behind))
				if !right {
					checkRestoredCode(t, what, got, impl.ErrSyntax, at)
				} else if got.Code == impl.ErrSyntax && got.At == int64(at) {
					t.Errorf("%s: it is refused", what)
				}
			}
			for cut := 1; cut < 4; cut++ {
				checkRestoredCode(t, "cut within it", impl.UnpackMachine(head[:at+cut]), impl.ErrSyntax, at+cut)
			}
		}
	}
	for what, numbers := range map[string][]int64{"all wrong": {0, 101, 101}, "frames right": {1, 101, 101}, "and Ins": {1, 100, 101}} {
		wrong := map[string]int{"all wrong": 4, "frames right": 8, "and Ins": 12}[what]
		checkRestoredCode(t, what, impl.UnpackMachine("VM1\n"+fourBytesEach(numbers)+bytes0(2000)), impl.ErrSyntax, wrong)
	}
}

func TestUnpackMachineWithSomethingBehind(t *testing.T) {
	for what, m := range someMachines() {
		text := impl.PackMachine(m)
		end := len(text)
		for _, behind := range []string{"\x00", "x", "VM1\n", text, bytes0(256), bytes0(65536 - end)} {
			checkRestoredCode(t, what+", a right sum", impl.UnpackMachine(text+behind), impl.ErrSyntax, end)
			checkRestoredCode(t, what+", a wrong sum", impl.UnpackMachine(otherText(text, end-1, 1)+behind), impl.ErrSyntax, end)
			if end+len(behind) <= 65532 {
				checkRestoredCode(t, what+", a sum of all", impl.UnpackMachine(withMachineSum(text+behind)), impl.ErrSyntax, end)
			}
		}
	}
}

func TestUnpackMachineOfLongTexts(t *testing.T) {
	full := impl.PackMachine(withFrames(255, always))
	checkRestored(t, "MaxBytes", impl.UnpackMachine(full), impl.Restored{Machine: withFrames(255, always)})
	checkRestoredCode(t, "a byte more", impl.UnpackMachine(full+"\x00"), impl.ErrSize, 0)
	checkRestoredCode(t, "a byte less", impl.UnpackMachine(full[:65535]), impl.ErrSyntax, 65535)
	whole := withMachineSum(plainMachineText(withFrames(256, always)))
	checkRestoredCode(t, "256 frames that are told", impl.UnpackMachine(whole), impl.ErrSize, 0)
	checkRestoredCode(t, "the first of it", impl.UnpackMachine(whole[:65536]), impl.ErrSyntax, 65536)
	for size, code := range map[int]int64{65536: impl.ErrSyntax, 65537: impl.ErrSize, 100000: impl.ErrSize} {
		checkRestoredCode(t, "a long text", impl.UnpackMachine(strings.Repeat("V", size)), code, 0)
	}
	short := impl.PackMachine(impl.NewMachine(emptyMemory(1)))
	checkRestoredCode(t, "too much behind the end", impl.UnpackMachine(short+bytes0(65537-225)), impl.ErrSize, 0)
}

// A text that is right but for its machine is told apart from one whose sum is wrong.
func TestUnpackMachineOfWrongMachines(t *testing.T) {
	for _, c := range wrongChanges() {
		m := sampleMachine(0)
		c.change(&m)
		lists := len(m.Regs) == 16 && len(m.Ctl) == 12 && len(m.Vec) == 16 && len(m.Ins) <= 100 && len(m.Outs) <= 100
		if !lists || len(m.Mem)%256 != 0 || len(m.Mem) < 256 || len(m.Mem) > 65536 {
			continue
		}
		text := withMachineSum(plainMachineText(m))
		// A number that is no word is told as another one, which may be right.
		if plainUnpackMachine(text).Code == impl.OK {
			continue
		}
		checkRestoredCode(t, c.what, checkUnpackMachine(t, c.what, text), impl.ErrForm, 0)
		checkRestoredCode(t, c.what+", a wrong sum", impl.UnpackMachine(otherText(text, len(text)-2, 4)), impl.ErrSum, len(text)-4)
		checkRestoredCode(t, c.what+", a byte behind", impl.UnpackMachine(text+"\x00"), impl.ErrSyntax, len(text))
	}
	text := impl.PackMachine(knownMachine())
	for what, c := range map[string]struct {
		at   int
		word int64
		code int64
	}{
		"Mode 1": {20, 1, impl.OK}, "Mode 2": {20, 2, impl.ErrForm}, "Mode -1": {20, allOn, impl.ErrForm},
		"State 2": {24, 2, impl.OK}, "State 3": {24, 3, impl.ErrForm}, "State 2^31": {24, topBit, impl.ErrForm},
		"Count/2^32 255": {32, 255, impl.OK}, "Count/2^32 256": {32, 256, impl.ErrForm}, "Count/2^32 2^31": {32, topBit, impl.ErrForm}, "Count/2^32 2^32-1": {32, allOn, impl.ErrForm},
		"Lines 127": {36, 127, impl.OK}, "Lines 128": {36, 128, impl.ErrForm}, "Lines 2^32-1": {36, allOn, impl.ErrForm},
		"Trace 0": {40, 0, impl.OK}, "Trace MixPrime": {40, 2147483629, impl.ErrForm}, "Trace 2^32-1": {40, allOn, impl.ErrForm},
		"register 0": {44, 1, impl.ErrForm}, "register 0 2^32-1": {44, allOn, impl.ErrForm}, "register 15": {104, allOn, impl.OK},
		"CtlStatus 32": {108, 32, impl.ErrForm}, "CtlStatus 0": {108, 0, impl.OK}, "CtlEnable": {148, allOn, impl.OK},
		"CtlCount": {140, 1, impl.ErrForm}, "CtlPending": {144, 1, impl.ErrForm}, "CtlName": {152, 1212765505, impl.ErrForm},
		"Port 2048 of Ins": {220, 2048, impl.ErrForm}, "Port 0 of Ins": {220, 0, impl.OK}, "Port -1 of Ins": {228, allOn, impl.ErrForm},
		"Port 2047 of Outs": {236, 2047, impl.OK}, "Port 2048 of Outs": {236, 2048, impl.ErrForm}, "Value of Outs": {240, allOn, impl.OK},
	} {
		got := checkUnpackMachine(t, what, resummed(putAt(text, c.at, fourBytes(c.word))))
		checkNumbers(t, what+": Code, At", []int64{got.Code, got.At}, []int64{c.code, 0})
	}
	atEnd := resummed(putAt(text, 28, fourBytes(0)+fourBytes(256)))
	checkNumber(t, "Count 2^40", checkUnpackMachine(t, "Count 2^40", atEnd).Machine.Count, endCount)
	above := resummed(putAt(text, 28, fourBytes(1)+fourBytes(256)))
	checkRestoredCode(t, "Count 2^40 + 1", checkUnpackMachine(t, "Count 2^40 + 1", above), impl.ErrForm, 0)
}

// Texts that tell of a right machine, but not as PackMachine does.
func TestUnpackMachineOfOtherTextsForAMachine(t *testing.T) {
	m := withFrames(9, func(number int) bool { return number == 2 })
	text := impl.PackMachine(m)
	for _, number := range []int{0, 1, 3, 7, 8} {
		set := impl.PutBit(text[220:222], int64(number), true)
		frames := text[222:478]
		if number < 2 {
			frames = emptyMemory(1) + frames
		} else {
			frames += emptyMemory(1)
		}
		told := withMachineSum(text[:220] + set + frames)
		what := fmt.Sprintf("frame %d is told", number)
		checkRestoredCode(t, what, checkUnpackMachine(t, what, told), impl.ErrForm, 0)
		filled := withMachineSum(text[:220] + set + frames[:255] + "a" + frames[256:511] + "b")
		checkNumber(t, what+", and not empty", checkUnpackMachine(t, what, filled).Code, impl.OK)
	}
	for number := int64(9); number < 16; number++ {
		set := impl.PutBit(text[220:222], number, true)
		what := fmt.Sprintf("a bit of frame %d of 9", number)
		checkRestoredCode(t, what, checkUnpackMachine(t, what, resummed(putAt(text, 220, set))), impl.ErrForm, 0)
		longer := withMachineSum(text[:220] + set + text[222:478] + filledMemory(1))
		checkRestoredCode(t, what+", and its frame", checkUnpackMachine(t, what, longer), impl.ErrSyntax, len(text))
	}
	one := impl.PackMachine(impl.NewMachine(filledMemory(1)))
	for _, set := range []string{"\x03", "\x81", "\xff"} {
		checkRestoredCode(t, "a bit of a frame there is not", checkUnpackMachine(t, "bit", resummed(putAt(one, 220, set))), impl.ErrForm, 0)
	}
	none := withMachineSum(one[:220] + "\x02")
	checkRestoredCode(t, "that bit alone", checkUnpackMachine(t, "bit", none), impl.ErrForm, 0)
}

func TestUnpackMachineWithAnotherSum(t *testing.T) {
	for what, m := range someMachines() {
		text := impl.PackMachine(m)
		at := len(text) - 4
		sum := quickMix(text[:at], 61)
		others := []int64{sum + 1, sum - 1, 0, allOn, sum ^ topBit, sum + 2147483629, quickMix(text[:at], 60), quickMix(text[:at], 62), quickMix(text[:at], 0), quickMix(text, 61), quickMix(text[4:at], 61)}
		for _, other := range others {
			checkRestoredCode(t, fmt.Sprintf("%s: %d", what, other), impl.UnpackMachine(text[:at]+fourBytes(other)), impl.ErrSum, at)
		}
	}
}

// Each byte of one text is taken as each other one, those of the others as some.
func TestP38OneByteAnother(t *testing.T) {
	for what, m := range someMachines() {
		text := impl.PackMachine(m)
		some := []byte{1, 2, 4, 16, 128, 255}
		if what == "ports" {
			some = nil
			for by := 1; by < 256; by++ {
				some = append(some, byte(by))
			}
		}
		for at := range len(text) {
			for _, by := range some {
				other := otherText(text, at, by)
				got := impl.UnpackMachine(other)
				if got.Code == impl.OK {
					t.Fatalf("%s: byte %d another one: no code", what, at)
				}
				checkRestored(t, fmt.Sprintf("%s: byte %d another one", what, at), got, plainUnpackMachine(other))
			}
		}
	}
}

// checkGoesOn is P38's second part: a machine that comes back does what it would have done.
func checkGoesOn(t *testing.T, what string, m impl.Machine, steps int64) {
	t.Helper()
	back := impl.UnpackMachine(impl.PackMachine(m)).Machine
	checkRun(t, what+", goes on", impl.RunMachine(back, steps), impl.RunMachine(m, steps))
}

func TestP38OfABusyMachine(t *testing.T) {
	m := busyMachine(t)
	for step := range int64(240) {
		checkMachineBack(t, fmt.Sprintf("behind %d steps", step), m)
		checkGoesOn(t, fmt.Sprintf("behind %d steps", step), m, 240-step)
		m = impl.RunMachine(m, 1).Machine
	}
}

func TestP38OfRandomMachines(t *testing.T) {
	rng := rand.New(rand.NewSource(2038))
	instrs := everyInstr()
	for n := range 1500 {
		m := talkMachine(rng)
		switch n % 3 {
		case 1:
			m = shadowMachine(rng)
		case 2:
			m = randomMachine(rng, wordOfInstr(instrs[rng.Intn(len(instrs))]))
		}
		m = impl.RunMachine(m, rng.Int63n(min(endCount-m.Count, 100)+1)).Machine
		what := fmt.Sprintf("machine %d", n)
		text := checkMachineBack(t, what, m)
		checkGoesOn(t, what, m, min(endCount-m.Count, 60))
		for range 20 {
			other := otherText(text, rng.Intn(len(text)), byte(1+rng.Intn(255)))
			if checkUnpackMachine(t, what, other).Code == impl.OK {
				t.Errorf("%s: a byte another one: no code", what)
			}
		}
		if t.Failed() {
			return
		}
	}
}

// What is read of whatever text without a code is a right machine, and has this text.
func TestUnpackMachineOfWhateverText(t *testing.T) {
	rng := rand.New(rand.NewSource(2051))
	codes := map[int64]int{}
	for range 8000 {
		m := talkMachine(rng)
		bytes := []byte(plainMachineText(m))
		for range rng.Intn(3) {
			at := 4 + rng.Intn(min(len(bytes)-4, 300))
			bytes[at] = byte(oneOf(rng, 0, 1, 2, 3, 100, 101, rng.Int63n(256)))
		}
		if rng.Intn(4) == 0 {
			bytes = bytes[:4+rng.Intn(len(bytes)-4)]
		}
		text := withMachineSum(string(bytes))
		if rng.Intn(8) == 0 {
			text += string(bytes[:rng.Intn(len(bytes))])
		}
		got := checkUnpackMachine(t, "a text", text)
		if got.Code == impl.OK {
			checkNumber(t, "MachineFault", impl.MachineFault(got.Machine), impl.OK)
			checkText(t, "packed again", impl.PackMachine(got.Machine), text)
		}
		codes[got.Code]++
		if t.Failed() {
			return
		}
	}
	for _, code := range []int64{impl.OK, impl.ErrSyntax, impl.ErrForm} {
		if codes[code] < 500 {
			t.Errorf("code %d came %d times", code, codes[code])
		}
	}
}

// spoilMachine writes over all lists of an answer, and into the room behind them.
func spoilMachine(m impl.Machine) {
	for _, list := range [][]int64{m.Regs, m.Ctl, m.Vec} {
		for n := range list[:cap(list)] {
			list[:cap(list)][n] = 99
		}
	}
	for _, list := range [][]impl.PortValue{m.Ins, m.Outs} {
		for n := range list[:cap(list)] {
			list[:cap(list)][n] = impl.PortValue{Port: 9, Value: 9}
		}
	}
}

func TestMachinesOfUnpackMachineAreNewMemory(t *testing.T) {
	for what, m := range someMachines() {
		text := impl.PackMachine(m)
		got := impl.UnpackMachine(text).Machine
		for _, list := range [][]int64{got.Regs, got.Ctl, got.Vec} {
			was := copyMachine(got)
			_ = append(list, 99)
			checkMachine(t, what+": behind one list is none of the others", got, was)
		}
		spoilMachine(got)
		checkRestored(t, what+" again", impl.UnpackMachine(text), impl.Restored{Machine: m})
	}
}

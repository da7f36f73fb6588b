package tests

import (
	"fmt"
	"math"
	"math/rand"
	"slices"
	"strings"
	"testing"

	"loop.example/g00038/impl"
)

// rowWords are so many words, no two of which are alike.
func rowWords(count int) []int64 {
	words := make([]int64, count)
	for n := range words {
		words[n] = 0x01020304 * int64(n+1) & 0xffffffff
	}
	return words
}

// The wanted sum comes from another program, which was written from the document's words.
func TestMakeBootKnown(t *testing.T) {
	disk := checkMakeBoot(t, "two words", []int64{0x04030201, 1<<32 - 1}, 0x1f4, 0x80000000)
	checkText(t, "two words", disk[:72], "BOOT\xf4\x01\x00\x00\x00\x00\x00\x80\x02\x00\x00\x00\x97\x64\x23\x09"+bytes0(44)+"\x01\x02\x03\x04\xff\xff\xff\xff")
	checkText(t, "two words: the rest", disk[72:], bytes0(56))
}

func TestMakeBootHowMany(t *testing.T) {
	for count, size := range map[int]int{0: 0, 1: 128, 2: 128, 15: 128, 16: 128, 17: 192, 31: 192, 32: 192, 33: 256, 999: 4096, 1000: 4096, 1001: 0, 1002: 0, 16384: 0} {
		what := fmt.Sprintf("%d words", count)
		disk := checkMakeBoot(t, what, rowWords(count), 256, 260)
		checkNumber(t, what, int64(len(disk)), int64(size))
		if size > 0 {
			checkText(t, what+" on the disk", disk[64:64+4*count], fourBytesEach(rowWords(count)))
			checkText(t, what+": behind them", strings.Trim(disk[64+4*count:], "\x00"), "")
		}
	}
	checkText(t, "an empty list", checkMakeBoot(t, "an empty list", []int64{}, 0, 0), "")
}

func TestMakeBootNumbers(t *testing.T) {
	for place, right := range withEnds(map[int64]bool{
		-4: false, -1: false, 0: true, 1: false, 2: false, 3: false, 4: true, 6: false, 256: true, 65528: true, 65530: false, 65532: true,
		65533: false, 65535: false, 65536: false, 65540: false, 1<<32 - 4: false, 1 << 32: false, 1<<63 - 4: false, -1<<63 + 4: false,
	}) {
		what := fmt.Sprintf("place %d", place)
		checkEqual(t, what, checkMakeBoot(t, what, rowWords(3), place, 0) != "", right)
	}
	for entry, right := range withEnds(map[int64]bool{-1: false, 0: true, 1: true, 65536: true, 1<<31 - 1: true, 1 << 31: true, 1<<32 - 1: true, 1 << 32: false, 1<<32 + 1: false}) {
		what := fmt.Sprintf("entry %d", entry)
		checkEqual(t, what, checkMakeBoot(t, what, rowWords(3), 0, entry) != "", right)
	}
	for _, count := range []int{1, 2, 16, 17, 1000} {
		for _, n := range []int{0, count / 2, count - 1} {
			for _, word := range numbersThatAreNoWords() {
				words := rowWords(count)
				words[n] = word
				what := fmt.Sprintf("%d as number %d of %d", word, n, count)
				checkText(t, what, checkMakeBoot(t, what, words, 0, 0), "")
			}
			for _, word := range []int64{0, 1, 1 << 31, 1<<32 - 1} {
				words := rowWords(count)
				words[n] = word
				what := fmt.Sprintf("%d as number %d of %d", word, n, count)
				checkNumber(t, what, wordAt(checkMakeBoot(t, what, words, 0, 0), int64(64+4*n)), word)
			}
		}
	}
}

func plainBoard(frames int64) impl.Board { return impl.Board{Frames: frames, Cpus: 1} }

// The wanted sums and registers come from that program, too.
func TestBootKnown(t *testing.T) {
	b := impl.Board{Frames: 3, Cpus: 4, Devices: []impl.Device{{Kind: 9, Port: 258, Line: 5}}}
	got := checkBoot(t, "a boot", impl.MakeBoot([]int64{0x44434241, 0x48474645}, 8, 12), b)
	checkNumbers(t, "Code, Pc, Mode, State", []int64{got.Code, got.Machine.Pc, got.Machine.Mode, got.Machine.State}, []int64{0, 12, 1, 0})
	checkNumbers(t, "Regs of the machine", got.Machine.Regs, []int64{0, 512, 2, 0, 0, 0, 0, 0, 0, 0, 0, 0, 0, 0, 0, 0})
	checkMemory(t, "ahead of the last frame", got.Machine.Mem[:512], bytes0(8)+"ABCDEFGH"+bytes0(496))
	tables := "FIRM\x03\x00\x00\x00\x18\x02\x00\x00\x24\x02\x00\x00\x30\x02\x00\x00\x4b\xb0\xad\xb2" +
		"MEMO\xc2\x01\x0c\x00\x03\x00\x00\x00CPUS\xb4\x01\x0c\x00\x04\x00\x00\x00DEVS\xb0\x01\x0c\x00\x02\x01\x05\x09"
	checkMemory(t, "the last frame", got.Machine.Mem[512:], tables+bytes0(256-len(tables)))
	checkNumbers(t, "Regs", got.Regs, []int64{237187155, 84192119})
	checkNumber(t, "MachineFault", impl.MachineFault(got.Machine), impl.OK)
}

// All but what the boot says is as NewMachine has it.
func TestBootMachines(t *testing.T) {
	rng := rand.New(rand.NewSource(2103))
	for n := range 300 {
		what := fmt.Sprintf("boot %d", n)
		b := randomBoard(rng)
		last := 256*b.Frames - 256
		words := randomWords(rng, 1+rng.Intn(int(min(1000, last/4))))
		room := last - 4*int64(len(words))
		place := oneOf(rng, 0, room, 4*rng.Int63n(room/4+1))
		entry := oneOf(rng, place, last, randomWord(rng))
		got := checkBoot(t, what, impl.MakeBoot(words, place, entry), b)
		want := impl.NewMachine(got.Machine.Mem)
		want.Pc, want.Regs[1], want.Regs[2] = entry, last, int64(len(words))
		checkMachine(t, what, got.Machine, want)
		checkNumber(t, what+": Code", got.Code, impl.OK)
		checkNumber(t, what+": how much memory", int64(len(got.Machine.Mem)), 256*b.Frames)
		checkText(t, what+": the words", got.Machine.Mem[place:place+4*int64(len(words))], fourBytesEach(words))
		read := impl.BoardOf(impl.ReadTables(got.Machine.Mem, got.Machine.Regs[1]).Tables)
		checkBoardRead(t, what+": what a kernel finds", read, impl.BoardRead{Good: true, Board: b})
	}
}

func TestBootDisksOfWrongSize(t *testing.T) {
	disk := impl.MakeBoot(rowWords(20), 0, 0)
	for _, size := range []int{1, 2, 63, 65, 100, 127, 129, 191} {
		checkBootCode(t, fmt.Sprintf("%d bytes", size), (disk + bytes0(200))[:size], sampleBoard(), impl.ErrForm)
	}
	for _, more := range []int{1, 4, 60, 63} {
		checkBootCode(t, fmt.Sprintf("%d bytes more", more), disk+bytes0(more), sampleBoard(), impl.ErrForm)
	}
	checkBootCode(t, "no disk", "", sampleBoard(), impl.ErrSyntax)
	checkBootCode(t, "no disk and no board", "", impl.Board{}, impl.ErrForm)
	for _, size := range []int{65537, 65600, 65664, 70000} {
		long := disk + bytes0(size-len(disk))
		checkBootCode(t, fmt.Sprintf("%d bytes", size), long, sampleBoard(), impl.ErrSize)
		checkBootCode(t, fmt.Sprintf("%d bytes and no board", size), long, impl.Board{}, impl.ErrSize)
	}
	whole := disk + bytes0(65536-len(disk))
	checkBooted(t, "as long as may be", checkBoot(t, "as long as may be", whole, sampleBoard()), impl.Boot(disk, sampleBoard()))
}

func TestBootMarks(t *testing.T) {
	disk := impl.MakeBoot(rowWords(20), 0, 0)
	for at := range 4 {
		for bit := range 8 {
			checkBootCode(t, "another mark", otherText(disk, at, 1<<bit), sampleBoard(), impl.ErrSyntax)
		}
	}
	for _, mark := range []string{"boot", "TOOB", "FIRM", "\x00BOO", "OOTB"} {
		checkBootCode(t, mark, putAt(disk, 0, mark), sampleBoard(), impl.ErrSyntax)
	}
	checkBootCode(t, "a sector ahead", bytes0(64)+disk, sampleBoard(), impl.ErrSyntax)
	checkBootCode(t, "all 0", bytes0(256), sampleBoard(), impl.ErrSyntax)
}

func TestBootPlaces(t *testing.T) {
	words := fourBytesEach(rowWords(2))
	for place, code := range map[int64]int64{
		0: impl.OK, 1: impl.ErrSyntax, 2: impl.ErrSyntax, 3: impl.ErrSyntax, 4: impl.OK, 252: impl.OK, 256: impl.OK, 1780: impl.OK, 1784: impl.OK,
		1785: impl.ErrSyntax, 1788: impl.ErrSize, 1792: impl.ErrSize, 2040: impl.ErrSize, 2044: impl.ErrSize, 2048: impl.ErrSize,
		65532: impl.ErrSize, 65534: impl.ErrSyntax, 65536: impl.ErrSize, 1 << 24: impl.ErrSize, 1<<31 - 4: impl.ErrSize, 1 << 31: impl.ErrSize,
		1<<32 - 8: impl.ErrSize, 1<<32 - 4: impl.ErrSize, 1<<32 - 2: impl.ErrSyntax, 1<<32 - 1: impl.ErrSyntax,
	} {
		what := fmt.Sprintf("place %d", place)
		got := checkBoot(t, what, bootText(place, 0, 2, words), plainBoard(8))
		checkNumber(t, what, got.Code, code)
	}
}

// Words may end where the last frame begins, and not a word behind.
func TestBootWordsThatFit(t *testing.T) {
	for _, frames := range []int64{2, 3, 4, 5, 8, 16, 255, 256} {
		last := 256*frames - 256
		for _, count := range []int64{1, 2, 16, 63, 64, 65, 128, 999, 1000} {
			words := fourBytesEach(rowWords(int(count)))
			room := last - 4*count
			for _, place := range []int64{0, 4, room - 4, room, room + 4, room + 8, last - 4, last, last + 4} {
				if place < 0 {
					continue
				}
				what := fmt.Sprintf("%d words at %d of %d frames", count, place, frames)
				got := checkBoot(t, what, bootText(place, place, count, words), plainBoard(frames))
				code := int64(impl.ErrSize)
				if place <= room {
					code = impl.OK
				}
				checkNumber(t, what, got.Code, code)
			}
		}
	}
}

func TestBootHowMany(t *testing.T) {
	words := fourBytesEach(rowWords(1000))
	for _, count := range []int64{0, 1001, 1002, 16383, 16384, 65536, 1 << 30, 1<<31 - 1, 1 << 31, 1<<32 - 1000, 1<<32 - 1} {
		checkBootCode(t, fmt.Sprintf("%d words", count), bootText(0, 0, count, words)+bytes0(2048), plainBoard(256), impl.ErrSyntax)
	}
	// None of these has all of its words on the disk; the sum is right of those that are there.
	for _, count := range []int64{1, 16, 17, 32, 33, 1000} {
		for sectors := range (count + 15) / 16 {
			disk := bootText(0, 0, count, words[:64*sectors])
			checkBootCode(t, fmt.Sprintf("%d words in %d sectors", count, sectors), disk, plainBoard(256), impl.ErrSyntax)
		}
		what := fmt.Sprintf("%d words", count)
		checkNumber(t, what, checkBoot(t, what, bootText(0, 0, count, words[:4*count]), plainBoard(256)).Code, impl.OK)
	}
}

// Each bit of the words and of their sum counts; what stands beside them does not.
func TestBootSums(t *testing.T) {
	disk := impl.MakeBoot(rowWords(3), 4, 8)
	right := impl.Boot(disk, sampleBoard())
	for at := range disk {
		for bit := range 8 {
			other := otherText(disk, at, 1<<bit)
			what := fmt.Sprintf("byte %d", at)
			switch {
			case among(int64(at), 16, 19), among(int64(at), 64, 75):
				checkBootCode(t, what, other, sampleBoard(), impl.ErrSum)
			case among(int64(at), 20, 63), at >= 76:
				checkBooted(t, what, checkBoot(t, what, other, sampleBoard()), right)
			default:
				checkBoot(t, what, other, sampleBoard())
			}
		}
	}
	// More sectors than there need be say nothing.
	checkBooted(t, "more sectors", checkBoot(t, "more sectors", disk+letters(5), sampleBoard()), right)
	turned := fourBytesEach([]int64{2, 1})
	checkBootCode(t, "turned words", putAt(impl.MakeBoot([]int64{1, 2}, 0, 0), 64, turned), sampleBoard(), impl.ErrSum)
	checkBootCode(t, "one word fewer", putAt(disk, 12, fourBytes(2)), sampleBoard(), impl.ErrSum)
}

// Where several things are wrong the first one is told.
func TestBootFirstFault(t *testing.T) {
	type part struct {
		text string
		code int64
	}
	words := fourBytesEach(rowWords(32))
	ends := []part{{"", impl.OK}, {"x", impl.ErrForm}, {bytes0(65536), impl.ErrSize}}
	marks := []part{{"BOOT", impl.OK}, {"TOOB", impl.ErrSyntax}}
	places := []part{{fourBytes(0), impl.OK}, {fourBytes(2), impl.ErrSyntax}, {fourBytes(1 << 31), impl.ErrSize}, {fourBytes(1792 - 124), impl.ErrSize}}
	counts := []part{{fourBytes(32), impl.OK}, {fourBytes(0), impl.ErrSyntax}, {fourBytes(1001), impl.ErrSyntax}, {fourBytes(33), impl.ErrSyntax}}
	sums := []part{{fourBytes(quickMix(words, 71)), impl.OK}, {"sum!", impl.ErrSum}}
	told := map[int64]int{}
	for _, b := range []impl.Board{sampleBoard(), {}} {
		for _, end := range ends {
			for _, mark := range marks {
				for _, place := range places {
					for _, count := range counts {
						for _, sum := range sums {
							want := int64(impl.OK)
							for _, fault := range []struct {
								code int64
								is   bool
							}{
								{impl.ErrSize, end.code == impl.ErrSize},
								{impl.ErrForm, end.code == impl.ErrForm || b.Frames == 0},
								{impl.ErrSyntax, mark.code != impl.OK || place.code == impl.ErrSyntax || count.code != impl.OK},
								{impl.ErrSum, sum.code != impl.OK},
								{impl.ErrSize, place.code == impl.ErrSize},
							} {
								if fault.is {
									want = fault.code
									break
								}
							}
							disk := mark.text + place.text + fourBytes(0) + count.text + sum.text + bytes0(44) + words + end.text
							what := fmt.Sprintf("%d Frames, codes %d, %d, %d, %d, %d", b.Frames, end.code, mark.code, place.code, count.code, sum.code)
							got := checkBoot(t, what, disk, b)
							checkNumber(t, what, got.Code, want)
							told[want]++
						}
					}
				}
			}
		}
	}
	for _, code := range []int64{impl.OK, impl.ErrForm, impl.ErrSyntax, impl.ErrSum, impl.ErrSize} {
		if told[code] == 0 {
			t.Errorf("code %d was not told", code)
		}
	}
}

// The tables of a right board never fill the last frame: those of the greatest one leave more than half of it.
func TestBootTablesOfTheGreatestBoard(t *testing.T) {
	for count := range int64(17) {
		b := impl.Board{Frames: 256, Cpus: 8, Devices: manyDevices(count)}
		what := fmt.Sprintf("%d Devices", count)
		got := checkBoot(t, what, impl.MakeBoot([]int64{1}, 65276, 0), b)
		checkNumber(t, what, got.Code, impl.OK)
		end := 65280 + 56 + 4*count
		checkNumber(t, what+": the word ahead", wordAt(got.Machine.Mem, 65276), 1)
		checkText(t, what+": the tables", got.Machine.Mem[65280:end], plainFirm(65280, plainTablesOf(b)))
		checkText(t, what+": behind the tables", got.Machine.Mem[end:], bytes0(int(65536-end)))
	}
}

func TestBootsAreNewMemory(t *testing.T) {
	disk, b := impl.MakeBoot(rowWords(5), 0, 0), sampleBoard()
	first := impl.Boot(disk, b)
	spoilMachine(first.Machine)
	first.Regs[0], first.Regs[1] = -1, -1
	checkBooted(t, "booted again", checkBoot(t, "booted again", disk, b), plainBoot(disk, sampleBoard()))
}

func checkHello(t *testing.T, what string, text string) string {
	t.Helper()
	was := strings.Clone(text)
	got := impl.HelloText(text)
	checkText(t, what+": HelloText", got, plainHello(text))
	checkText(t, what+": the text handed in", text, was)
	return got
}

func TestHelloText(t *testing.T) {
	checkText(t, "no bytes", checkHello(t, "no bytes", ""), "halt\n")
	checkText(t, "two bytes", checkHello(t, "two bytes", "\x00\xff"), "addi r1, r0, 0\nout r1, 1\naddi r1, r0, 255\nout r1, 1\nhalt\n")
	for b := range 256 {
		checkHello(t, fmt.Sprintf("byte %d", b), string([]byte{byte(b)}))
	}
	for _, sign := range []string{"\x00", "\xff", "a", "\n", "\u00e4"} {
		for _, size := range []int{1, 2, 59, 60, 61, 99, 100, 101, 102, 1000, 65536, 65537} {
			text := strings.Repeat(sign, size)[:size]
			what := fmt.Sprintf("%d bytes of %q", size, sign)
			hello := checkHello(t, what, text)
			checkEqual(t, what+" are told", hello != "", size <= 100)
			if size > 100 {
				continue
			}
			a := impl.Assemble(hello, 0)
			checkNumbers(t, what+": Code, Line", []int64{a.Code, a.Line, int64(len(a.Words))}, []int64{0, 0, int64(2*size + 1)})
			for n, word := range a.Words[:2*size] {
				want := impl.Instr{Op: impl.OpOut, A: 1, Imm: 1}
				if n%2 == 0 {
					want = impl.Instr{Op: impl.OpAddI, A: 1, Imm: int64(text[n/2])}
				}
				checkNumber(t, what+": a word", word, wordOfInstr(want))
			}
			checkNumber(t, what+": the last word", a.Words[2*size], wordOfInstr(impl.Instr{Op: impl.OpHalt}))
		}
	}
}

// checkTells is P43: the text is told by both ways of running, and the machine stops behind it.
func checkTells(t *testing.T, what string, text string, place int64, b impl.Board) {
	t.Helper()
	words := impl.Assemble(checkHello(t, what, text), 0).Words
	booted := checkBoot(t, what, checkMakeBoot(t, what, words, place, place), b)
	checkNumber(t, what+": Boot", booted.Code, impl.OK)
	var told []impl.PortValue
	for _, one := range []byte(text) {
		told = append(told, impl.PortValue{Port: 1, Value: int64(one)})
	}
	steps := int64(2*len(text) + 1)
	for _, most := range []int64{steps, steps + 1, 1000, impl.MaxSteps} {
		run := impl.RunMachine(booted.Machine, most)
		checkPorts(t, what+": told by RunMachine", run.Machine.Outs, told)
		checkNumbers(t, what+": Code, Steps, State", []int64{run.Code, run.Steps, run.Machine.State}, []int64{0, steps, impl.StateHalt})
	}
	shadow := checkShadowSame(t, what, booted.Machine, 1000)
	checkPorts(t, what+": told by RunShadow", shadow.Machine.Outs, told)
	checkNumbers(t, what+": Code, Steps, State by RunShadow", []int64{shadow.Code, shadow.Steps, shadow.Machine.State}, []int64{0, steps, impl.StateHalt})
	// A step fewer, and it has not stopped.
	checkNumber(t, what+": one step fewer", impl.RunMachine(booted.Machine, steps-1).Machine.State, impl.StateGo)
}

func TestP43TextsAreToldByteByByte(t *testing.T) {
	rng := rand.New(rand.NewSource(43))
	for size := range 61 {
		checkTells(t, fmt.Sprintf("%d bytes", size), randomBytes(rng, size), 0, plainBoard(8))
		b := randomBoard(rng)
		b.Frames = 8
		checkTells(t, fmt.Sprintf("%d bytes on a board", size), randomBytes(rng, size), 0, b)
		checkTells(t, fmt.Sprintf("%d bytes elsewhere", size), randomBytes(rng, size), 4*rng.Int63n(300), b)
	}
	for _, text := range []string{"hello", strings.Repeat("\x00", 60), strings.Repeat("\xff", 60), "a\nb\"\\@#:", "\u00e4\u00f6\u00fc"} {
		checkTells(t, fmt.Sprintf("%.20q", text), text, 0, sampleBoard())
	}
	for first := 0; first < 256; first += 32 {
		text := make([]byte, 32)
		for n := range text {
			text[n] = byte(first + n)
		}
		checkTells(t, fmt.Sprintf("bytes from %d on", first), string(text), 0, plainBoard(8))
	}
}

// A board counts for register 0 alone, the words for register 1 alone, and the place and the entry for none.
func TestP44BootsMeasureBoardAndWords(t *testing.T) {
	rng := rand.New(rand.NewSource(44))
	for n := range 300 {
		what := fmt.Sprintf("boot %d", n)
		b := randomBoard(rng)
		b.Frames = 6 + rng.Int63n(250)
		words := randomWords(rng, 1+rng.Intn(300))
		booted := checkBoot(t, what, impl.MakeBoot(words, 0, 0), b)
		firm := booted.Machine.Mem[256*b.Frames-256:]
		checkNumbers(t, what+": Regs", booted.Regs, impl.Measure([]int64{0, 0}, []impl.Stage{{Reg: 0, Text: firm}, {Reg: 1, Text: fourBytesEach(words)}}))
		checkNumbers(t, what+": elsewhere", impl.Boot(impl.MakeBoot(words, 8, randomWord(rng)), b).Regs, booted.Regs)
		checkNumbers(t, what+": a longer disk", impl.Boot(impl.MakeBoot(words, 0, 0)+bytes0(640), b).Regs, booted.Regs)
		others := slices.Clone(words)
		others[rng.Intn(len(others))] ^= 1 << rng.Intn(32)
		otherWords := checkBoot(t, what, impl.MakeBoot(others, 0, 0), b).Regs
		checkNumber(t, what+": other words, register 0", otherWords[0], booted.Regs[0])
		otherBoard := copyBoard(b)
		otherBoard.Cpus = 1 + otherBoard.Cpus%8
		otherRegs := checkBoot(t, what, impl.MakeBoot(words, 0, 0), otherBoard).Regs
		checkNumber(t, what+": another board, register 1", otherRegs[1], booted.Regs[1])
		if otherWords[1] == booted.Regs[1] || otherRegs[0] == booted.Regs[0] {
			t.Errorf("%s: something else was measured alike", what)
		}
	}
}

func TestP44WhatIsSealedUnderABootIsUnsealedUnderIt(t *testing.T) {
	rng := rand.New(rand.NewSource(4444))
	for n := range 200 {
		what := fmt.Sprintf("boot %d", n)
		b, words := sampleBoard(), randomWords(rng, 1+rng.Intn(100))
		boots := []impl.Booted{
			impl.Boot(impl.MakeBoot(words, 0, 0), b),
			impl.Boot(impl.MakeBoot(append(slices.Clone(words), 7), 0, 0), b),
			impl.Boot(impl.MakeBoot(words, 0, 0), changedBoard(func(b *impl.Board) { b.Devices = b.Devices[1:] })),
		}
		data := randomBytes(rng, rng.Intn(200))
		for mask := range int64(4) {
			sealed := impl.Seal("root", boots[0].Regs, mask, data)
			again := impl.Boot(impl.MakeBoot(words, 0, 0), sampleBoard())
			checkEqual(t, what+": the same boot", impl.Unseal("root", again.Regs, sealed), impl.Opened{Data: data})
			for other, lets := range map[int]bool{1: mask&2 == 0, 2: mask&1 == 0} {
				want := impl.Opened{Code: impl.ErrRight}
				if lets {
					want = impl.Opened{Data: data}
				}
				checkEqual(t, fmt.Sprintf("%s, mask %d, boot %d", what, mask, other), impl.Unseal("root", boots[other].Regs, sealed), want)
			}
		}
	}
}

func TestP53DisksUnderAKeyBootAsTheyAre(t *testing.T) {
	rng := rand.New(rand.NewSource(53))
	for n := range 300 {
		what := fmt.Sprintf("disk %d", n)
		b := randomBoard(rng)
		words := randomWords(rng, 1+rng.Intn(60))
		disk := impl.MakeBoot(words, 0, randomWord(rng)) + bytes0(64*rng.Intn(4))
		alone := checkBoot(t, what, disk, b)
		checkNumber(t, what+": Boot", alone.Code, impl.OK)
		master, pass := randomBytes(rng, 16), randomBytes(rng, rng.Intn(20))
		made := impl.MakeVolume(master, pass, randomWord(rng))
		crypted := impl.CryptDisk(master, disk)
		opened := impl.OpenVolume(made.Volume, pass)
		checkNumbers(t, what+": codes of the volume", []int64{made.Code, opened.Code}, []int64{0, 0})
		checkBooted(t, what+": behind the key", checkBoot(t, what, impl.CryptDisk(opened.Data, crypted), b), alone)
		added := impl.AddPass(made.Volume, pass, pass+"more", randomWord(rng))
		second := impl.OpenVolume(added.Volume, pass+"more")
		checkBooted(t, what+": by the second pass", checkBoot(t, what, impl.CryptDisk(second.Data, crypted), b), alone)
		// Without the key, or with another one, there is nothing to boot.
		checkBootCode(t, what+": crypted", crypted, b, impl.ErrSyntax)
		checkBootCode(t, what+": under another key", impl.CryptDisk(otherText(opened.Data, rng.Intn(16), 1), crypted), b, impl.ErrSyntax)
		checkNumber(t, what+": by no pass", impl.OpenVolume(made.Volume, pass+"x").Code, impl.ErrRight)
	}
	// What boots to a code does so behind a key.
	for code, disk := range map[int64]string{
		impl.ErrSyntax: bytes0(128),
		impl.ErrSum:    otherText(impl.MakeBoot([]int64{1, 2}, 0, 0), 64, 1),
		impl.ErrSize:   impl.MakeBoot([]int64{1, 2}, 65532, 0),
	} {
		master := impl.OpenVolume(impl.MakeVolume(someMaster, "pass", 7).Volume, "pass").Data
		checkBootCode(t, "a disk with a code", impl.CryptDisk(master, impl.CryptDisk(someMaster, disk)), sampleBoard(), code)
	}
}

// Whatever disk is booted, the answer is the plain one, and a machine that comes of it is right.
func TestBootOfWhatever(t *testing.T) {
	rng := rand.New(rand.NewSource(2104))
	told := map[int64]int{}
	for n := range 6000 {
		what := fmt.Sprintf("disk %d", n)
		b := randomBoard(rng)
		words := randomBytes(rng, 4*(1+rng.Intn(100)))
		place := oneOf(rng, 0, 4*rng.Int63n(64*b.Frames), 4*rng.Int63n(64*b.Frames), rng.Int63n(256*b.Frames), randomWord(rng))
		disk := bootText(place, randomWord(rng), int64(len(words)/4), words)
		if rng.Intn(4) == 0 {
			disk = otherText(disk, int(oneOf(rng, rng.Int63n(20), rng.Int63n(20), rng.Int63n(int64(len(disk))))), 1<<rng.Intn(8))
		}
		if rng.Intn(20) == 0 {
			disk = disk[:rng.Intn(len(disk))]
		}
		if rng.Intn(20) == 0 {
			b.Cpus = oneOf(rng, -1, 0, 9, math.MaxInt64)
		}
		got := checkBoot(t, what, disk, b)
		told[got.Code]++
		if got.Code == impl.OK {
			checkNumber(t, what+": MachineFault", impl.MachineFault(got.Machine), impl.OK)
		}
	}
	for _, code := range []int64{impl.OK, impl.ErrForm, impl.ErrSyntax, impl.ErrSum, impl.ErrSize} {
		if told[code] < 200 {
			t.Errorf("code %d was told %d times", code, told[code])
		}
	}
}

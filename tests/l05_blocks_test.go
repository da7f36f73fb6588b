package tests

import (
	"fmt"
	"math"
	"math/rand"
	"slices"
	"strings"
	"testing"

	"loop.example/g00038/impl"
)

// frameWords is a memory of that many frames, whose words are all the same.
func frameWords(frames int, word int64) string {
	return strings.Repeat(withWord(emptyMemory(1)[:4], 0, word), frames*64)
}

func TestBlockAtIsEndedByEachOpThatEndsIt(t *testing.T) {
	add := wordOfText(t, "addi r1, r1, 1")
	for _, i := range everyInstr() {
		word := wordOfInstr(i)
		want := []int64{add, add, word, add, add, add, add, add}
		if i.Op >= 32 && i.Op <= 49 {
			want = want[:3]
		}
		mem := fourWords(frameWords(2, add), 40, want)
		checkNumbers(t, fmt.Sprintf("third is %+v", i), impl.BlockAt(mem, 40), want)
		if len(want) == 3 {
			checkNumbers(t, fmt.Sprintf("at %+v", i), impl.BlockAt(mem, 48), []int64{word})
		}
	}
}

func TestBlockAtIsEndedByWordsThatDecodeDoesNotTake(t *testing.T) {
	add := wordOfText(t, "addi r1, r1, 1")
	words := []int64{0, 1, 65535, 14 << 24, 31 << 24, 38 << 24, 39 << 24, 50 << 24, 51 << 24, 55 << 24, 0x01000001, 0x10001000, 0x34400000, topBit, allOn}
	for _, word := range words {
		mem := withWord(frameWords(1, add), 12, word)
		what := fmt.Sprintf("word %#x", word)
		checkNumbers(t, what+" is the fourth", impl.BlockAt(mem, 0), []int64{add, add, add, word})
		checkNumbers(t, what+" is the first", impl.BlockAt(mem, 12), []int64{word})
		checkNumbers(t, what+" is behind the last", impl.BlockAt(withWord(mem, 8, wordOfText(t, "sys")), 0), []int64{add, add, wordOfText(t, "sys")})
	}
}

func TestBlockAtHasNoMoreThanMaxBlockWords(t *testing.T) {
	add, halt := wordOfText(t, "addi r1, r1, 1"), wordOfText(t, "halt")
	mem := frameWords(1, add)
	checkNumbers(t, "eight of many", impl.BlockAt(mem, 0), slices.Repeat([]int64{add}, 8))
	checkNumbers(t, "the last in a frame", impl.BlockAt(mem, 256-32), slices.Repeat([]int64{add}, 8))
	checkNumbers(t, "an end at number 8", impl.BlockAt(withWord(mem, 28, halt), 0), append(slices.Repeat([]int64{add}, 7), halt))
	checkNumbers(t, "an end at number 9", impl.BlockAt(withWord(mem, 32, halt), 0), slices.Repeat([]int64{add}, 8))
	checkNumbers(t, "an end at number 7", impl.BlockAt(withWord(mem, 24, halt), 0), append(slices.Repeat([]int64{add}, 6), halt))
}

func TestBlockAtEndsWithItsFrame(t *testing.T) {
	add := wordOfText(t, "addi r1, r1, 1")
	mem := frameWords(3, add)
	for _, end := range []int64{256, 512, 768} {
		for words := range int64(9) {
			if words > 0 {
				checkNumbers(t, fmt.Sprintf("%d words ahead of %d", words, end), impl.BlockAt(mem, end-4*words), slices.Repeat([]int64{add}, int(words)))
			}
		}
	}
	checkNumbers(t, "the last word of the greatest memory", impl.BlockAt(frameWords(256, add), 65532), []int64{add})
}

func TestBlockAtOfPlacesThatAreNone(t *testing.T) {
	mem := frameWords(2, wordOfText(t, "addi r1, r1, 1"))
	for _, at := range []int64{-1, -4, -512, 1, 2, 3, 5, 254, 509, 510, 511, 512, 513, 516, 65536, math.MinInt64, math.MinInt64 + 4, math.MaxInt64, math.MaxInt64 - 3} {
		checkNumbers(t, fmt.Sprintf("at %d", at), impl.BlockAt(mem, at), nil)
	}
}

func TestBlockAtOfMemoryThatIsNotRight(t *testing.T) {
	for _, size := range []int{0, 1, 4, 255, 257, 260, 65532, 65535, 65537, 65540, 65792} {
		for _, at := range []int64{-4, 0, 4, 256} {
			checkNumbers(t, fmt.Sprintf("%d bytes, at %d", size, at), impl.BlockAt(strings.Repeat("\x00", size), at), nil)
		}
	}
}

func TestBlockAtAgainstPlainBlock(t *testing.T) {
	rng := rand.New(rand.NewSource(6))
	for range 30 {
		m := blockMachine(rng)
		for at := int64(0); at < min(int64(len(m.Mem)), 1024); at += 4 {
			checkNumbers(t, fmt.Sprintf("at %d", at), impl.BlockAt(m.Mem, at), plainBlock(m.Mem, at))
		}
	}
}

func TestBlockAtAnswersNewMemory(t *testing.T) {
	mem := frameWords(1, wordOfText(t, "addi r1, r1, 1"))
	first := impl.BlockAt(mem, 0)
	want := slices.Clone(first)
	_ = append(first[:1], 5, 5, 5)
	checkNumbers(t, "once more", impl.BlockAt(mem, 0), want)
}

// The counts behind each number of steps are Made, Entered, Chained, Dropped.
func TestLoopsKnowTheirLinksTheSecondTime(t *testing.T) {
	m := loadMachine(t, 1, "a:\n addi r1, r1, 1\n eq r0, r0, @a")
	checkBlocks(t, "one block", m, 0, 0, 0, 0, 0)
	checkBlocks(t, "one block", m, 1, 1, 1, 0, 0)
	checkBlocks(t, "one block", m, 2, 1, 1, 0, 0)
	checkBlocks(t, "one block", m, 3, 1, 2, 0, 0)
	checkBlocks(t, "one block", m, 4, 1, 2, 0, 0)
	checkBlocks(t, "one block", m, 5, 1, 3, 1, 0)
	checkBlocks(t, "one block", m, impl.MaxSteps, 1, 10000, 9998, 0)
	m = loadMachine(t, 1, "a:\n addi r1, r1, 1\n eq r0, r0, @b\n halt\nb:\n addi r2, r2, 1\n eq r0, r0, @a")
	checkBlocks(t, "two blocks", m, 4, 2, 2, 0, 0)
	checkBlocks(t, "two blocks", m, 6, 2, 3, 0, 0)
	checkBlocks(t, "two blocks", m, 8, 2, 4, 1, 0)
	checkBlocks(t, "two blocks", m, 12, 2, 6, 3, 0)
}

func TestABlockHasALinkToEachThatItLeadsTo(t *testing.T) {
	m := loadMachine(t, 1, "a:\n addi r1, r1, 1\n ne r1, r2, @a\n addi r1, r0, 0\n eq r0, r0, @a")
	m.Regs[2] = 2
	checkBlocks(t, "a branch", m, 5, 2, 3, 0, 0)
	checkBlocks(t, "a branch", m, 8, 2, 4, 0, 0)
	checkBlocks(t, "a branch", m, 9, 2, 5, 1, 0)
	checkBlocks(t, "a branch", m, 11, 2, 6, 2, 0)
	checkBlocks(t, "a branch", m, 13, 2, 7, 3, 0)
}

func TestBlocksThatEndWithoutABranchHaveLinks(t *testing.T) {
	m := loadMachine(t, 1, "a:\n"+strings.Repeat(" addi r1, r1, 1\n", 8)+" eq r0, r0, @a")
	checkBlocks(t, "behind number MaxBlock", m, 8, 1, 1, 0, 0)
	checkBlocks(t, "behind number MaxBlock", m, 9, 2, 2, 0, 0)
	checkBlocks(t, "behind number MaxBlock", m, 27, 2, 6, 3, 0)
	m = impl.NewMachine(fourWords(emptyMemory(2), 248, impl.Assemble("addi r1, r1, 1\naddi r1, r1, 1\naddi r1, r1, 1\neq r0, r0, -3", 0).Words))
	m.Pc = 248
	checkBlocks(t, "behind the end of a frame", m, 2, 1, 1, 0, 0)
	checkBlocks(t, "behind the end of a frame", m, 3, 2, 2, 0, 0)
	checkBlocks(t, "behind the end of a frame", m, 12, 2, 6, 3, 0)
	for _, text := range []string{"getc r1, 8", "putc r0, 5", "flush", "in r1, 5", "out r1, 5", "eq r1, r2, 9", "call r5, 1", "jump r5, r3, 4"} {
		m = loadMachine(t, 1, text+"\n eq r0, r0, -1")
		m.Regs[2] = 1
		checkBlocks(t, "behind "+text, m, 5, 2, 5, 2, 0)
	}
}

func TestAJumpIntoTheMiddleOfABlock(t *testing.T) {
	m := loadMachine(t, 1, "addi r1, r1, 1\naddi r1, r1, 1\naddi r1, r1, 1\neq r0, r0, -2")
	checkBlocks(t, "ahead of the jump", m, 4, 1, 1, 0, 0)
	checkBlocks(t, "the jump", m, 5, 2, 2, 0, 0)
	checkBlocks(t, "once more", m, 8, 2, 3, 0, 0)
	checkBlocks(t, "a third time", m, 11, 2, 4, 1, 0)
}

// A jump to the very next place is a link, since what jumps is the last one of its block.
func TestAJumpToTheNextPlace(t *testing.T) {
	m := loadMachine(t, 1, "eq r0, r0, 1\naddi r1, r1, 1\neq r0, r0, -2")
	checkBlocks(t, "the jump", m, 2, 2, 2, 0, 0)
	checkBlocks(t, "once more", m, 5, 2, 4, 1, 0)
	checkBlocks(t, "a third time", m, 8, 2, 6, 3, 0)
}

func TestABlockThatATrapLeaves(t *testing.T) {
	m := loadMachine(t, 1, "load r3, r2, 0\naddi r4, r4, 1\neq r0, r0, 0\naddi r2, r0, 0\nret")
	m.Regs[2], m.Ctl[impl.CtlVector] = 1, 12
	checkBlocks(t, "a trap in the first step", m, 2, 2, 2, 0, 0)
	checkBlocks(t, "and back", m, 6, 2, 3, 0, 0)
	m = loadMachine(t, 1, "addi r4, r4, 1\nload r3, r2, 0\naddi r4, r4, 1\nhalt\naddi r2, r0, 0\nret")
	m.Regs[2], m.Ctl[impl.CtlVector] = 1, 16
	checkBlocks(t, "a trap in the middle", m, 3, 2, 2, 0, 0)
	checkBlocks(t, "and back into the middle", m, 5, 3, 3, 0, 0)
	checkBlocks(t, "and to the end", m, 9, 3, 3, 0, 0)
	m = loadMachine(t, 1, "sys\neq r0, r0, -1\nret")
	m.Ctl[impl.CtlVector] = 8
	checkBlocks(t, "a trap by the last one", m, 3, 3, 3, 0, 0)
	checkBlocks(t, "once more", m, 6, 3, 6, 1, 0)
	checkBlocks(t, "a third time", m, 9, 3, 9, 3, 0)
}

// A trap whose vector is the next place in the block leaves the block all the same.
func TestATrapToTheNextPlace(t *testing.T) {
	m := loadMachine(t, 1, "load r3, r2, 0\naddi r4, r4, 1\nhalt")
	m.Regs[2], m.Ctl[impl.CtlVector] = 1, 4
	checkBlocks(t, "a load", m, 2, 2, 2, 0, 0)
	checkBlocks(t, "to the end", m, 9, 2, 2, 0, 0)
}

func TestIllegalWordsAreEntered(t *testing.T) {
	m := loadMachine(t, 1, "addi r1, r1, 1\n.word 0")
	checkBlocks(t, "behind another one", m, 6, 1, 3, 0, 0)
	checkBlocks(t, "alone", loadMachine(t, 1, ".word 0"), 3, 1, 3, 0, 0)
	m = loadMachine(t, 1, "addi r1, r1, 1\nhalt")
	m.Mode = impl.ModeUser
	checkBlocks(t, "for the kernel alone", m, 9, 1, 2, 0, 0)
	m = loadMachine(t, 1, "addi r1, r1, 1\nvadd v1, v1, v1\nhalt")
	checkBlocks(t, "without StatusVec", m, 6, 1, 3, 0, 0)
	m.Ctl[impl.CtlStatus] = impl.StatusVec
	checkBlocks(t, "with StatusVec", m, 9, 1, 1, 0, 0)
}

func TestAFetchThatTrapsIsNoLink(t *testing.T) {
	for _, to := range []int64{2, 256, 1024, topBit, allOn} {
		m := loadMachine(t, 1, "jump r0, r2, 0")
		m.Regs[2] = to
		checkBlocks(t, fmt.Sprintf("to %d", to), m, 1, 1, 1, 0, 0)
		checkBlocks(t, fmt.Sprintf("to %d", to), m, 2, 1, 1, 0, 0)
		checkBlocks(t, fmt.Sprintf("to %d", to), m, 5, 1, 3, 0, 0)
	}
	m := loadMachine(t, 1, "halt")
	m.Pc, m.Ctl[impl.CtlVector] = 256, 256
	checkBlocks(t, "never read", m, 9, 0, 0, 0, 0)
}

// timerMachine is stopped by the timer in that step, with a trap or not.
func timerMachine(t *testing.T, text string, step int64, status int64, vector int64) impl.Machine {
	t.Helper()
	m := loadMachine(t, 1, text)
	m.Ctl[impl.CtlTimer], m.Ctl[impl.CtlEnable] = step, 0x80
	m.Ctl[impl.CtlStatus], m.Ctl[impl.CtlVector] = status, vector
	return m
}

func TestABlockThatALineLeaves(t *testing.T) {
	text := "addi r1, r1, 1\naddi r1, r1, 1\naddi r1, r1, 1\naddi r1, r1, 1\nhalt\nputc r0, 7\nret"
	m := timerMachine(t, text, 3, impl.StatusOn, 20)
	checkBlocks(t, "the line", m, 3, 1, 1, 0, 0)
	checkBlocks(t, "its code", m, 5, 3, 3, 0, 0)
	checkBlocks(t, "back in the middle", m, 9, 4, 4, 0, 0)
	m = timerMachine(t, "addi r1, r1, 1\neq r0, r0, -1\nputc r0, 7\nret", 3, impl.StatusOn, 8)
	checkBlocks(t, "behind the last one", m, 5, 3, 3, 0, 0)
	checkBlocks(t, "back at the first one", m, 6, 3, 4, 0, 0)
	checkBlocks(t, "a link now", m, 8, 3, 5, 0, 0)
	checkBlocks(t, "a link that is known", m, 10, 3, 6, 1, 0)
	m = timerMachine(t, "addi r1, r1, 1\naddi r1, r1, 1\nhalt", 2, 0, 0)
	checkBlocks(t, "a line without a trap", m, 9, 1, 1, 0, 0)
	m = timerMachine(t, "addi r1, r1, 1\naddi r1, r1, 1\nputc r0, 7\nhalt", 2, impl.StatusOn, 4)
	checkBlocks(t, "a line that leads to the next place", m, 9, 3, 3, 0, 0)
}

func TestABlockThatAWaitLeaves(t *testing.T) {
	text := "wait\naddi r1, r1, 1\neq r0, r0, -2"
	m := timerMachine(t, text, 5, 0, 0)
	checkBlocks(t, "waiting", m, 4, 1, 1, 0, 0)
	checkBlocks(t, "awake, which is no link", m, 5, 2, 2, 0, 0)
	checkBlocks(t, "awake at once, which is one", m, 8, 2, 4, 0, 0)
	checkBlocks(t, "once more", m, 11, 2, 6, 2, 0)
	m = timerMachine(t, text, 1, 0, 0)
	checkBlocks(t, "always awake at once", m, 2, 2, 2, 0, 0)
	checkBlocks(t, "always awake at once", m, 8, 2, 6, 3, 0)
	m = timerMachine(t, text, 3, impl.StatusOn, 4)
	checkBlocks(t, "awake with a trap to the next place", m, 4, 2, 2, 0, 0)
	m = timerMachine(t, text, 3, 0, 0)
	m.State = impl.StateWait
	checkBlocks(t, "waiting from the beginning", m, 2, 0, 0, 0, 0)
	checkBlocks(t, "and then awake", m, 3, 1, 1, 0, 0)
}

// writesOf has an instruction that changes what is at the place in r2, and what makes it leave that as it was.
func writesOf() map[string]func(m *impl.Machine) {
	return map[string]func(m *impl.Machine){
		"store r1, r2, 0":    func(m *impl.Machine) { m.Regs[1] = 0 },
		"storeb r1, r2, 0":   func(m *impl.Machine) { m.Regs[1] = 256 },
		"store r1, r2, 124":  func(m *impl.Machine) { m.Regs[1] = 0 },
		"storeb r1, r2, 127": func(m *impl.Machine) { m.Regs[1] = 512 },
		"fadd r3, r2, r1":    func(m *impl.Machine) { m.Regs[1] = 0 },
		"swap r3, r2, r1":    func(m *impl.Machine) { m.Regs[1] = 0 },
		"ifsame r3, r2, r1":  func(m *impl.Machine) { m.Regs[3] = 9 },
		"vstore v1, r2":      func(m *impl.Machine) { m.Vec[7] = 0 },
	}
}

func TestABlockThatWritesToItself(t *testing.T) {
	for text, spare := range writesOf() {
		m := loadMachine(t, 4, text+"\nhalt")
		m.Ctl[impl.CtlStatus], m.Vec[7] = impl.StatusVec, 1
		m.Regs[1], m.Regs[2] = 0x31000001, 128
		same := copyMachine(m)
		spare(&same)
		checkBlocks(t, text, m, 9, 2, 2, 0, 1)
		checkBlocks(t, text+" as it was", same, 9, 1, 1, 0, 0)
		m.Regs[2], same.Regs[2] = 640, 640
		checkBlocks(t, text+" elsewhere", m, 9, 1, 1, 0, 0)
		checkBlocks(t, text+" elsewhere as it was", same, 9, 1, 1, 0, 0)
	}
}

func TestABlockThatWritesItsOwnNextInstruction(t *testing.T) {
	m := loadMachine(t, 1, "load r1, r0, @new\nstore r1, r0, @old\nold:\naddi r2, r0, 1\nhalt\nnew:\naddi r2, r0, 2")
	got := checkBlocks(t, "the next one", m, 9, 2, 2, 0, 1)
	checkNumber(t, "what the new one did", got.Machine.Regs[2], 2)
	m = loadMachine(t, 1, "load r1, r0, @new\nstore r1, r0, @old\neq r0, r0, @old\nnew:\nhalt\nold:\nsys")
	got = checkBlocks(t, "the next block", m, 4, 3, 3, 0, 1)
	checkNumber(t, "what the new one did", got.Machine.State, impl.StateHalt)
}

func TestALoopThatWritesToItself(t *testing.T) {
	m := loadMachine(t, 3, "a:\naddi r1, r1, 1\nstore r1, r2, 0\neq r0, r0, @a")
	m.Regs[2] = 128
	checkBlocks(t, "its own frame", m, 3, 2, 2, 0, 1)
	checkBlocks(t, "its own frame", m, 6, 4, 4, 0, 3)
	checkBlocks(t, "its own frame", m, 9, 6, 6, 0, 5)
	m.Regs[2] = 512
	checkBlocks(t, "a frame in which none begins", m, 9, 1, 3, 1, 0)
	m = loadMachine(t, 3, "a:\naddi r1, r1, 1\nstore r0, r0, 128\neq r0, r0, @a")
	checkBlocks(t, "what was there", m, 9, 1, 3, 1, 0)
	m = loadMachine(t, 3, "a:\naddi r1, r1, 1\nswap r1, r2, r1\neq r0, r0, @a")
	m.Regs[2] = 256
	checkBlocks(t, "a block that begins elsewhere", m, 9, 1, 3, 1, 0)
}

// The block in frame 1 goes by each write there, with its links; those of other blocks stay known.
func TestABlockThatWritesToAnotherBlock(t *testing.T) {
	text := "a:\naddi r1, r1, 1\ncall r15, 63\nstore r1, r2, 0\neq r0, r0, @a"
	m := loadMachine(t, 3, text)
	m.Mem = withWord(m.Mem, 256, wordOfText(t, "jump r0, r15, 0"))
	m.Regs[2] = 384
	checkBlocks(t, "its frame", m, 5, 3, 3, 0, 1)
	checkBlocks(t, "its frame", m, 10, 4, 6, 0, 2)
	checkBlocks(t, "its frame", m, 15, 5, 9, 1, 3)
	checkBlocks(t, "its frame", m, 20, 6, 12, 2, 4)
	m.Regs[2] = 640
	checkBlocks(t, "a frame without blocks", m, 15, 3, 9, 5, 0)
	m.Mem = withWord(m.Mem, 8, wordOfText(t, "store r0, r2, 0"))
	m.Regs[2] = 384
	checkBlocks(t, "as it was", m, 15, 3, 9, 5, 0)
}

func TestAVectorThatIsPutIntoTwoFrames(t *testing.T) {
	for n, counts := range [][]int64{{1, 1, 0, 0}, {1, 1, 0, 0}, {2, 2, 0, 1}, {2, 2, 0, 1}} {
		m := impl.NewMachine(fourWords(emptyMemory(2), 384, []int64{wordOfText(t, "vstore v2, r2"), wordOfText(t, "halt")}))
		m.Pc, m.Ctl[impl.CtlStatus], m.Regs[2], m.Vec[8+n] = 384, impl.StatusVec, 248, 7
		checkBlocks(t, fmt.Sprintf("word %d is another one", n), m, 9, counts...)
	}
	m := impl.NewMachine(fourWords(emptyMemory(2), 384, []int64{wordOfText(t, "call r5, -96"), wordOfText(t, "eq r0, r0, -1")}))
	m.Mem = fourWords(m.Mem, 0, []int64{wordOfText(t, "vstore v2, r2"), wordOfText(t, "jump r0, r5, 0")})
	m.Pc, m.Ctl[impl.CtlStatus], m.Regs[2], m.Vec[8], m.Vec[11] = 384, impl.StatusVec, 248, 7, 7
	checkBlocks(t, "blocks of both go", m, 2, 2, 2, 0, 2)
	checkBlocks(t, "and are made anew", m, 9, 6, 8, 1, 2)
}

// tableMachine has its root in frame 0 and its second table in frame 1, in which code stands, too; flags are those of
// page 0 (frame 1), page 1 (frame 2) and page 2 (frame 3).
func tableMachine(t *testing.T, text string, flags ...int64) impl.Machine {
	t.Helper()
	a := impl.Assemble(text, 128)
	if a.Code != impl.OK {
		t.Fatalf("line %d is refused with %d", a.Line, a.Code)
	}
	m := impl.NewMachine(fourWords(emptyMemory(4), 256+128, a.Words))
	m.Mem = withEntries(m.Mem, tableEntry{0, 0, 1, flagV})
	for page, more := range flags {
		m.Mem = withEntries(m.Mem, tableEntry{1, int64(page), int64(page + 1), flagV | flagR | flagW | flagX | more})
	}
	m.Pc, m.Ctl[impl.CtlVector], m.Ctl[impl.CtlStatus] = 128, 128, impl.StatusPaged
	return m
}

func TestFlagsThatALookupPutsLetBlocksGo(t *testing.T) {
	const both = flagA | flagD
	text := "addi r1, r0, 7\naddi r1, r0, 8\nhalt"
	checkBlocks(t, "a fetch", tableMachine(t, text, 0, 0, 0), 9, 2, 2, 0, 1)
	checkBlocks(t, "a fetch, flags there", tableMachine(t, text, flagA, 0, 0), 9, 1, 1, 0, 0)
	text = "load r1, r0, 512\naddi r1, r0, 8\nhalt"
	checkBlocks(t, "a load", tableMachine(t, text, flagA, 0, 0), 9, 2, 2, 0, 1)
	checkBlocks(t, "a load, flags there", tableMachine(t, text, flagA, 0, flagA), 9, 1, 1, 0, 0)
	checkBlocks(t, "a load and its fetch", tableMachine(t, text, 0, 0, 0), 9, 2, 2, 0, 1)
	text = "store r0, r0, 512\naddi r1, r0, 8\nhalt"
	checkBlocks(t, "a store", tableMachine(t, text, flagA, 0, flagA), 9, 2, 2, 0, 1)
	checkBlocks(t, "a store, flags there", tableMachine(t, text, flagA, 0, both), 9, 1, 1, 0, 0)
	text = "sys"
	checkBlocks(t, "a trap", tableMachine(t, text, 0, 0, 0), 2, 2, 2, 0, 1)
	checkBlocks(t, "a trap", tableMachine(t, text, 0, 0, 0), 3, 2, 3, 0, 1)
	checkBlocks(t, "a trap, flags there", tableMachine(t, text, flagA, 0, 0), 3, 1, 3, 0, 0)
	text = "load r1, r0, 768\naddi r1, r0, 8\nhalt"
	checkBlocks(t, "a lookup with a fault", tableMachine(t, text, flagA, 0, 0), 4, 1, 4, 0, 0)
}

// A write into the entry by which it is looked up may leave memory as it was ahead of the step, in spite of the flags.
func TestFlagsThatAreOverwritten(t *testing.T) {
	m := tableMachine(t, "addi r2, r0, 9\nstore r1, r0, 780\nhalt", flagA, 0, 0)
	m.Mem = withEntries(m.Mem, tableEntry{1, 3, 1, flagV | flagR | flagW | flagX})
	m.Regs[1] = readEntry(m.Mem, 1, 3)
	checkBlocks(t, "as it was", m, 9, 1, 1, 0, 0)
	m.Regs[1] |= flagA | flagD
	checkBlocks(t, "with the flags", m, 9, 2, 2, 0, 1)
}

func TestFlagsOfOneBlockLetAnotherOneGo(t *testing.T) {
	m := tableMachine(t, "addi r1, r1, 1\njump r14, r2, 0", flagA, flagA, 0)
	m.Mem = fourWords(m.Mem, 512, []int64{wordOfText(t, "load r3, r0, 512"), wordOfText(t, "jump r0, r14, -8")})
	m.Regs[2] = 256
	checkBlocks(t, "the lookup", m, 4, 2, 2, 0, 1)
	checkBlocks(t, "made anew", m, 8, 3, 4, 0, 1)
	checkBlocks(t, "known anew", m, 12, 3, 6, 2, 1)
}

func TestAWriteThatLetsBlocksOfTwoFramesGo(t *testing.T) {
	m := tableMachine(t, "call r14, 96\naddi r1, r1, 1\nhalt", flagA, 0, flagA)
	m.Mem = fourWords(m.Mem, 768, []int64{wordOfText(t, "store r2, r0, 700"), wordOfText(t, "jump r0, r14, 0")})
	m.Regs[2] = 5
	checkBlocks(t, "the table's and its own", m, 2, 2, 2, 0, 2)
	checkBlocks(t, "and back", m, 9, 4, 4, 0, 2)
}

func TestOneRealPlaceOfTwoAddresses(t *testing.T) {
	m := tableMachine(t, "halt", flagA, flagA, flagA)
	m.Mem = withEntries(m.Mem, tableEntry{1, 3, 2, flagV | flagX})
	m.Mem = fourWords(m.Mem, 512, []int64{wordOfText(t, "xori r2, r2, 512"), wordOfText(t, "jump r0, r2, 256")})
	m.Pc = 256
	checkBlocks(t, "one block", m, 3, 1, 2, 0, 0)
	checkBlocks(t, "one block", m, 5, 1, 3, 1, 0)
	checkBlocks(t, "one block", m, 12, 1, 6, 4, 0)
}

func TestOneAddressOfTwoRealPlaces(t *testing.T) {
	m := tableMachine(t, "halt", flagA|flagD, flagA, flagA)
	m.Mem = fourWords(m.Mem, 512, []int64{wordOfText(t, "store r1, r0, 4"), wordOfText(t, "addi r2, r0, 1"), wordOfText(t, "halt")})
	m.Mem = fourWords(m.Mem, 768, []int64{0, wordOfText(t, "addi r2, r0, 2"), wordOfText(t, "halt")})
	m.Pc, m.Regs[1] = 256, readEntry(m.Mem, 1, 2)
	got := checkBlocks(t, "a block whose page is led elsewhere", m, 9, 2, 2, 0, 0)
	checkNumber(t, "what was done there", got.Machine.Regs[2], 2)
}

// Blocks that are left in their middle, each time for the same one, have no link to it.
func TestABlockThatIsLeftInItsMiddleHasNoLink(t *testing.T) {
	m := tableMachine(t, "halt", flagA|flagD, flagA, flagA)
	m.Mem = fourWords(m.Mem, 512, []int64{wordOfText(t, "store r1, r0, 4"), wordOfText(t, "addi r3, r3, 1"), wordOfText(t, "eq r0, r0, -2")})
	m.Mem = fourWords(m.Mem, 768, []int64{0, wordOfText(t, "store r2, r0, 4"), wordOfText(t, "addi r3, r3, 1")})
	m.Pc, m.Regs[1], m.Regs[2] = 256, readEntry(m.Mem, 1, 2), readEntry(m.Mem, 1, 1)
	checkBlocks(t, "the first time", m, 3, 3, 3, 0, 0)
	checkBlocks(t, "the second time", m, 6, 3, 6, 0, 0)
	checkBlocks(t, "the third time", m, 9, 3, 9, 1, 0)
}

// rowMachine goes through that many blocks of one word each, and from the last one on to the first one.
func rowMachine(t *testing.T, blocks int64) impl.Machine {
	t.Helper()
	return loadMachine(t, 1, strings.Repeat("eq r0, r0, 1\n", int(blocks-1))+fmt.Sprintf("eq r0, r0, %d", 1-blocks))
}

func TestMoreThanMaxBlocksBlocks(t *testing.T) {
	m := rowMachine(t, 32)
	checkBlocks(t, "MaxBlocks", m, 32, 32, 32, 0, 0)
	checkBlocks(t, "MaxBlocks", m, 64, 32, 64, 31, 0)
	checkBlocks(t, "MaxBlocks", m, 96, 32, 96, 63, 0)
	m = rowMachine(t, 33)
	checkBlocks(t, "one more", m, 32, 32, 32, 0, 0)
	checkBlocks(t, "one more", m, 33, 33, 33, 0, 32)
	checkBlocks(t, "one more", m, 64, 64, 64, 0, 32)
	checkBlocks(t, "one more", m, 65, 65, 65, 0, 64)
	checkBlocks(t, "one more", m, 99, 99, 99, 0, 96)
}

// The block ahead goes by the one that is made, so that there is no link between them yet.
func TestTheBlockAheadGoesByMaxBlocks(t *testing.T) {
	m := loadMachine(t, 1, strings.Repeat("eq r0, r0, 1\n", 32)+"eq r0, r0, -1")
	checkBlocks(t, "all go", m, 33, 33, 33, 0, 32)
	checkBlocks(t, "made anew", m, 34, 34, 34, 0, 32)
	checkBlocks(t, "a link", m, 35, 34, 35, 0, 32)
	checkBlocks(t, "two that are known", m, 37, 34, 37, 2, 32)
}

func TestBlocksThatWentMakeRoom(t *testing.T) {
	row := strings.Repeat("eq r0, r0, 1\n", 30)
	m := loadMachine(t, 2, row+"store r1, r0, 252\neq r0, r0, 1\neq r0, r0, -32")
	m.Regs[1] = 1
	checkBlocks(t, "all of one frame", m, 31, 31, 31, 0, 31)
	checkBlocks(t, "and then others", m, 33, 33, 33, 0, 31)
	checkBlocks(t, "up to MaxBlocks", m, 63, 63, 63, 0, 31)
	checkBlocks(t, "and all go", m, 64, 64, 64, 0, 63)
}

package tests

import (
	"fmt"
	"testing"

	"loop.example/g00038/impl"
)

// Behind each number of steps stand the guest's frames as they were touched, and those that are dirty.
func TestFramesComeInAsTheyAreTouched(t *testing.T) {
	m := loadMachine(t, 5, "load r1, r0, 768\nloadb r1, r0, 1023\nload r1, r0, 256\nload r1, r0, 128\nstore r1, r0, 1024")
	m.Mem = m.Mem[:256] + filledMemory(4)
	checkNested(t, "nothing yet", m, 0, nil, nil)
	checkNested(t, "a fetch and a load", m, 1, []int64{0, 3}, nil)
	checkNested(t, "the same frame", m, 2, []int64{0, 3}, nil)
	checkNested(t, "another one", m, 3, []int64{0, 3, 1}, nil)
	checkNested(t, "that of the fetch", m, 4, []int64{0, 3, 1}, nil)
	got := checkNested(t, "a store", m, 5, []int64{0, 3, 1, 4}, []int64{4})
	// Free was 15 to 3 and 1, falling, and its first frame is the second table.
	checkMaps(t, "all", impl.ReadMaps(got.Host, 2), []impl.PageMap{
		{Va: 0, Frame: 14, Flags: 6}, {Va: 256, Frame: 12, Flags: 6}, {Va: 768, Frame: 13, Flags: 6}, {Va: 1024, Frame: 11, Flags: 6},
	})
	checkNumbers(t, "Free", got.Free, []int64{10, 9, 8, 7, 6, 5, 4, 3, 1})
	for place, number := range map[int64]int64{14: 0, 13: 3, 12: 1} {
		checkText(t, fmt.Sprintf("guest's frame %d", number), frameIn(got.Host, place), frameIn(m.Mem, number))
	}
	checkNumber(t, "what was stored", wordAt(got.Host, 11*256), got.Machine.Regs[1])
	checkText(t, "the rest of that frame", frameIn(got.Host, 11)[4:], frameIn(m.Mem, 4)[4:])
	checkText(t, "a frame that is left", frameIn(got.Host, 10), frameIn(sampleNest(m).host, 10))
}

func TestEachKindOfAccessTouches(t *testing.T) {
	for text, dirty := range map[string][]int64{
		"load r1, r2, 0": nil, "loadb r1, r2, 3": nil, "store r1, r2, 0": {3}, "storeb r1, r2, 1": {3},
		"fadd r1, r2, r3": {3}, "swap r1, r2, r3": {3}, "ifsame r1, r2, r3": {3}, "vload v1, r2": nil, "vstore v1, r2": {3},
	} {
		m := loadMachine(t, 4, text)
		m.Ctl[impl.CtlStatus], m.Regs[2], m.Regs[1] = impl.StatusVec, 768, 5
		checkNested(t, text, m, 1, []int64{0, 3}, dirty)
		m.Mode = impl.ModeUser
		checkNested(t, text+" of a user", m, 1, []int64{0, 3}, dirty)
		m.Regs[2] = 128
		if dirty != nil {
			dirty = []int64{0}
		}
		checkNested(t, text+" in the frame of the fetch", m, 1, []int64{0}, dirty)
	}
}

func TestDirtyIsRising(t *testing.T) {
	m := loadMachine(t, 6, "store r1, r0, 1280\nstore r1, r0, 768\nstore r1, r0, 1024\nstore r1, r0, 772\nstore r1, r0, 128")
	checkNested(t, "one", m, 1, []int64{0, 5}, []int64{5})
	checkNested(t, "two", m, 2, []int64{0, 5, 3}, []int64{3, 5})
	checkNested(t, "three", m, 3, []int64{0, 5, 3, 4}, []int64{3, 4, 5})
	checkNested(t, "one of them again", m, 4, []int64{0, 5, 3, 4}, []int64{3, 4, 5})
	checkNested(t, "that of the fetch", m, 5, []int64{0, 5, 3, 4}, []int64{0, 3, 4, 5})
}

// orderMachine has its root in frame 3, its code behind the second table in frame 1, in frame 2, and a page behind the
// second table in frame 0, which begins at 8192 (in r2) and leads to frame 4; flags are those of both pages' entries.
func orderMachine(t *testing.T, text string, flags int64) impl.Machine {
	t.Helper()
	m := loadMachine(t, 6, text)
	m.Mem = withEntries(emptyMemory(2)+m.Mem[:256]+filledMemory(3), tableEntry{3, 0, 1, flagV}, tableEntry{3, 1, 0, flagV},
		tableEntry{1, 0, 2, flagV | flagR | flagX | flags}, tableEntry{0, 0, 4, flagV | flagR | flagW | flags})
	m.Ctl[impl.CtlStatus], m.Ctl[impl.CtlTable], m.Regs[2] = impl.StatusPaged, 3, 8192
	return m
}

// Tables come ahead of the place to which they lead, and a fetch ahead of what it fetched.
func TestTheOrderInWhichAStepTouches(t *testing.T) {
	checkNested(t, "a load", orderMachine(t, "load r1, r2, 0", flagA), 1, []int64{3, 1, 2, 0, 4}, nil)
	checkNested(t, "a store", orderMachine(t, "store r1, r2, 0", flagA|flagD), 1, []int64{3, 1, 2, 0, 4}, []int64{4})
	checkNested(t, "no access", orderMachine(t, "addi r1, r2, 0", flagA), 1, []int64{3, 1, 2}, nil)
	m := orderMachine(t, "load r1, r2, 0\nload r1, r2, 4\nload r1, r0, 0", flagA)
	checkNested(t, "again", m, 3, []int64{3, 1, 2, 0, 4}, nil)
	m = orderMachine(t, "load r1, r2, 0", flagA|flagU)
	m.Mode = impl.ModeUser
	checkNested(t, "a user's", m, 1, []int64{3, 1, 2, 0, 4}, nil)
}

// A frame may be a table and a place, or the table of two lookups: it comes in once.
func TestAFrameThatIsTouchedAgain(t *testing.T) {
	m := tableMachine(t, "load r1, r0, 0\nload r1, r0, 512\nload r1, r0, 516\nload r1, r0, 256", flagA, flagA, flagA)
	checkNested(t, "a table that is a place", m, 1, []int64{0, 1}, nil)
	checkNested(t, "another page of that table", m, 2, []int64{0, 1, 3}, nil)
	checkNested(t, "the same page", m, 3, []int64{0, 1, 3}, nil)
	checkNested(t, "one more page", m, 4, []int64{0, 1, 3, 2}, nil)
	m.Mem = withEntries(m.Mem, tableEntry{1, 1, 3, flagV | flagR | flagA})
	checkNested(t, "two pages of one frame", m, 4, []int64{0, 1, 3}, nil)
	m.Mem = withEntries(m.Mem, tableEntry{0, 2, 0, flagV})
	m.Mem = withWord(m.Mem, 256+128, wordOfText(t, "load r1, r3, 0"))
	m.Regs[3] = 2*8192 + 256
	checkNested(t, "a root that is its own second table, a fault", m, 1, []int64{0, 1}, nil)
}

func TestTablesOfALargePage(t *testing.T) {
	m := tableMachine(t, "load r1, r2, 0\nload r1, r2, 256\nstore r1, r2, 256", flagA, 0, 0)
	m.Mem = withEntries(m.Mem+emptyMemory(36), tableEntry{0, 5, 32, flagV | flagR | flagW})
	m.Regs[2] = 5 * 8192
	checkNested(t, "its flag A", m, 1, []int64{0, 1, 32}, []int64{0})
	checkNested(t, "another page of it", m, 2, []int64{0, 1, 32, 33}, []int64{0})
	checkNested(t, "its flag D", m, 3, []int64{0, 1, 32, 33}, []int64{0, 33})
	m.Mem = withEntries(m.Mem, tableEntry{0, 5, 32, flagV | flagR | flagW | flagA | flagD})
	checkNested(t, "flags that are there", m, 3, []int64{0, 1, 32, 33}, []int64{33})
}

// Tables that were read are touched, also where they lead to no real place.
func TestTablesOfALookupThatLeadsNowhere(t *testing.T) {
	code := []int64{3, 1, 2}
	for what, c := range map[string]struct {
		entry   tableEntry
		touched []int64
	}{
		"no page":                             {tableEntry{0, 0, 0, 0}, []int64{3, 1, 2, 0}},
		"an entry without rights":             {tableEntry{0, 0, 4, flagV}, []int64{3, 1, 2, 0}},
		"a page that is not to be read":       {tableEntry{0, 0, 4, flagV | flagX}, []int64{3, 1, 2, 0}},
		"a frame that is none":                {tableEntry{0, 0, 6, flagV | flagR}, []int64{3, 1, 2, 0}},
		"no second table":                     {tableEntry{3, 1, 0, 0}, code},
		"a second table that is none":         {tableEntry{3, 1, 6, flagV}, code},
		"a large page at no such multiple":    {tableEntry{3, 1, 4, flagV | flagR}, code},
		"a large page that is not to be read": {tableEntry{3, 1, 0, flagV | flagX}, code},
	} {
		m := orderMachine(t, "load r1, r2, 0", flagA)
		m.Mem = withEntries(m.Mem, c.entry)
		got := checkNested(t, what, m, 1, c.touched, nil)
		if got.Machine.Ctl[impl.CtlCause] == 0 {
			t.Errorf("%s: no trap", what)
		}
	}
	m := orderMachine(t, "load r1, r2, 0", flagA)
	m.Regs[2] = 262144
	checkNested(t, "an address that is none", m, 1, code, nil)
	m.Regs[2] = 8194
	checkNested(t, "between words", m, 1, code, nil)
	m.Mode = impl.ModeUser
	checkNested(t, "code that is not a user's", m, 1, []int64{3, 1}, nil)
}

func TestAFetchThatLeadsNowhere(t *testing.T) {
	m := orderMachine(t, "addi r1, r1, 1", flagA)
	for what, c := range map[string]struct {
		pc      int64
		touched []int64
	}{
		"a page that is not to be fetched": {8192, []int64{3, 0}},
		"no page":                          {256, []int64{3, 1}},
		"no second table":                  {16384, []int64{3}},
		"between words":                    {2, nil},
		"an address that is none":          {262144, nil},
	} {
		m.Pc = c.pc
		checkNested(t, what, m, 1, c.touched, nil)
	}
	m.Pc, m.Ctl[impl.CtlTable] = 0, 6
	checkNested(t, "a root that is none", m, 1, nil, nil)
	m = loadMachine(t, 2, "load r1, r0, 512")
	checkNested(t, "an access behind memory", m, 1, []int64{0}, nil)
	m.Pc = 512
	checkNested(t, "behind memory", m, 1, nil, nil)
}

// Each 32 of the guest's frames want a second table, whose frame is taken ahead of the first of them.
func TestSecondTablesOfTheHost(t *testing.T) {
	m := loadMachine(t, 256, "load r1, r2, 0\nload r1, r3, 0\nload r1, r4, 0\nload r1, r5, 0")
	m.Regs[2], m.Regs[3], m.Regs[4], m.Regs[5] = 31*256, 32*256, 255*256, 63*256
	n := nest{host: plainLaid(emptyMemory(1), []int64{0}, filledMemory(12)), free: []int64{5, 1, 9, 3, 2, 11, 10, 4, 6}}
	for steps, free := range [][]int64{n.free, {3, 2, 11, 10, 4, 6}, {11, 10, 4, 6}, {4, 6}, {6}} {
		got, _ := checkNestedPlain(t, fmt.Sprintf("%d steps", steps), n, m, int64(steps))
		checkNumbers(t, fmt.Sprintf("Free behind %d steps", steps), got.Free, free)
	}
	got := runIn(n, m, 4)
	checkText(t, "root", frameIn(got.Host, 0), withEntries(emptyMemory(1), tableEntry{0, 0, 5, flagV}, tableEntry{0, 1, 3, flagV}, tableEntry{0, 7, 11, flagV}))
	const rights = flagV | flagR | flagW
	checkText(t, "the first table", frameIn(got.Host, 5), withEntries(emptyMemory(1), tableEntry{0, 0, 1, rights}, tableEntry{0, 31, 9, rights}))
	checkText(t, "the second one", frameIn(got.Host, 3), withEntries(emptyMemory(1), tableEntry{0, 0, 2, rights}, tableEntry{0, 31, 4, rights}))
	checkText(t, "the last one", frameIn(got.Host, 11), withEntries(emptyMemory(1), tableEntry{0, 31, 10, rights}))
}

// Its four touches want 1 + 2, 2, 2 and 1 frames.
func TestFreeThatIsUsedUp(t *testing.T) {
	m := loadMachine(t, 256, "load r1, r2, 0\nload r1, r3, 0\nstore r1, r4, 0\nstore r1, r5, 0\naddi r1, r1, 1\nhalt")
	m.Regs[2], m.Regs[3], m.Regs[4], m.Regs[5] = 31*256, 32*256, 255*256, 63*256
	all := nestWith(40)
	enough := []int{0, 3, 5, 7, 8, 8, 8}
	for free := range 12 {
		n := nest{host: all.host, root: all.root, free: all.free[:free]}
		for steps, wanted := range enough {
			what := fmt.Sprintf("%d steps with %d free", steps, free)
			got := runIn(n, m, int64(steps))
			if free < wanted {
				checkNestedCode(t, what, got, impl.ErrCount)
				checkNestedCode(t, what+", and on", runIn(n, m, impl.MaxSteps), impl.ErrCount)
				continue
			}
			checkNestedSame(t, what, n, m, int64(steps))
			checkNumbers(t, what+": Free", got.Free, n.free[wanted:])
		}
	}
}

// A code of the run comes ahead, also where free is used up in a step ahead of it.
func TestFreeThatIsUsedUpAtTheEndOfCount(t *testing.T) {
	m := loadMachine(t, 4, "load r1, r0, 256\nload r1, r0, 512\nhalt")
	m.Count = endCount - 2
	for free := range 5 {
		n := nestWith(20)
		n.free = n.free[:free]
		code := int64(impl.OK)
		if free < 4 {
			code = impl.ErrCount
		}
		checkNumber(t, fmt.Sprintf("%d free, two steps", free), runIn(n, m, 2).Code, code)
		checkNestedCode(t, fmt.Sprintf("%d free, three steps", free), runIn(n, m, 3), impl.ErrLimit)
		checkNestedCode(t, fmt.Sprintf("%d free, wrong steps", free), runIn(n, m, -1), impl.ErrForm)
		m.Count = endCount
		checkNestedCode(t, fmt.Sprintf("%d free, at the end", free), runIn(n, m, 1), impl.ErrLimit)
		m.Count = endCount - 2
	}
}

// A machine that touches nothing needs nothing.
func TestNothingFree(t *testing.T) {
	n := nestWith(4)
	n.free = nil
	m := loadMachine(t, 2, "addi r1, r1, 1")
	checkNestedCode(t, "a fetch", runIn(n, m, 1), impl.ErrCount)
	m.State = impl.StateWait
	checkNestedSame(t, "one that waits", n, m, 100)
	m.State = impl.StateHalt
	checkNestedSame(t, "one that halts", n, m, 100)
	m.State, m.Pc = impl.StateGo, 512
	m.Ctl[impl.CtlVector] = 512
	checkNestedSame(t, "code behind memory", n, m, 100)
}

// vectorMachine puts a vector into the last eight bytes of frame 1 and the first eight of frame 2, and goes on with that.
func vectorMachine(t *testing.T, ahead string, behind string) impl.Machine {
	t.Helper()
	m := loadMachine(t, 4, ahead+"\nvstore v1, r2\n"+behind)
	m.Mem = m.Mem[:256] + filledMemory(3)
	m.Ctl[impl.CtlStatus], m.Regs[2] = impl.StatusVec, 504
	m.Vec[4], m.Vec[5], m.Vec[6], m.Vec[7] = 1, 2, 3, 4
	return m
}

// One access touches the frame of its place alone; what it puts into the other frame stands in the host as soon as that
// one is touched, by whatever access, although the frame is not dirty by it.
func TestP13OfAFrameThatWasWrittenToAheadOfItsTouch(t *testing.T) {
	m := vectorMachine(t, "addi r1, r1, 1", "load r3, r0, 512\nload r3, r0, 768\nstore r3, r0, 768\nstore r1, r0, 600")
	got := checkNested(t, "its write", m, 2, []int64{0, 1}, []int64{1})
	checkNumbers(t, "what it wrote", []int64{wordAt(got.Machine.Mem, 508), wordAt(got.Machine.Mem, 512)}, []int64{2, 3})
	for steps, c := range []struct{ touched, dirty []int64 }{
		3: {[]int64{0, 1, 2}, []int64{1}}, 4: {[]int64{0, 1, 2, 3}, []int64{1}},
		5: {[]int64{0, 1, 2, 3}, []int64{1, 3}}, 6: {[]int64{0, 1, 2, 3}, []int64{1, 2, 3}},
	} {
		if steps < 3 {
			continue
		}
		what := fmt.Sprintf("behind %d steps", steps)
		got = checkNested(t, what, m, int64(steps), c.touched, c.dirty)
		checkNumbers(t, what+": what the host has", hostWords(got, 2, 504, 508, 512, 516), []int64{1, 2, 3, 4})
		checkText(t, what+": the rest", frameIn(got.Host, mappedIn(got.Host, 2, 2))[92:], frameIn(m.Mem, 2)[92:])
	}
	checkNumber(t, "what the guest reads there", runIn(sampleNest(m), m, 3).Machine.Regs[3], 3)
}

// Each kind of access may be the first that touches the other frame, and so may a fetch and a lookup.
func TestP13OfEachTouchBehindItsWrite(t *testing.T) {
	for text, dirty := range map[string][]int64{
		"load r3, r0, 600": {1}, "loadb r3, r0, 515": {1}, "vload v2, r4": {1}, "jump r5, r4, 0": {1},
		"store r1, r4, 24": {1, 2}, "storeb r1, r4, 3": {1, 2}, "vstore v2, r4": {1, 2},
		"fadd r1, r4, r3": {1, 2}, "swap r1, r4, r3": {1, 2}, "ifsame r1, r4, r3": {1, 2},
	} {
		m := vectorMachine(t, "addi r1, r1, 1", text+"\nhalt")
		m.Regs[4] = 512
		checkNested(t, text, m, 4, []int64{0, 1, 2}, dirty)
	}
	m := vectorMachine(t, "addi r1, r1, 1", "putc r4, 0\nhalt")
	m.Mem = withEntries(m.Mem, tableEntry{3, 0, 2, flagV})
	m.Ctl[impl.CtlTable], m.Regs[4] = 3, impl.StatusPaged|impl.StatusVec
	m.Vec[6], m.Vec[7] = flagV|flagR|flagX|flagA, 256|flagV|flagR
	checkNested(t, "a table", m, 4, []int64{0, 1, 3, 2}, []int64{1})
}

// hostWords are the words at the guest's addresses, as the host has them behind its table root.
func hostWords(got impl.NestedRun, root int64, addresses ...int64) []int64 {
	var words []int64
	for _, at := range addresses {
		words = append(words, wordAt(got.Host, 256*mappedIn(got.Host, root, at/256)+at%256))
	}
	return words
}

func TestAFrameThatWasTouchedAheadOfItsWrite(t *testing.T) {
	m := vectorMachine(t, "load r3, r0, 512", "load r3, r0, 512")
	got := checkNested(t, "a vector in two frames", m, 3, []int64{0, 2, 1}, []int64{1})
	checkBehind(t, "a vector in two frames", sampleNest(m), got)
	checkNumber(t, "what the guest reads", got.Machine.Regs[3], 3)
	m = vectorMachine(t, "load r3, r0, 512", "load r3, r0, 512")
	m.Regs[2] = 496
	checkNested(t, "a vector that ends with its frame", m, 3, []int64{0, 2, 1}, []int64{1})
	m.Regs[2] = 512
	checkNested(t, "a vector that begins with its frame", m, 3, []int64{0, 2}, []int64{2})
	m = loadMachine(t, 4, "vload v1, r2")
	m.Ctl[impl.CtlStatus], m.Regs[2] = impl.StatusVec, 504
	checkNested(t, "a vector that is read", m, 1, []int64{0, 1}, nil)
}

func TestRandomVectorsInTwoFrames(t *testing.T) {
	m := vectorMachine(t, "addi r1, r1, 1", "")
	lines := []string{"vstore v1, r2", "vstore v2, r3", "load r1, r2, 8", "load r1, r3, 0", "storeb r0, r2, 12", "vload v1, r3", "load r1, r4, 0"}
	for seed := range 300 {
		text := ""
		for n := seed; n > 0; n /= 7 {
			text += lines[n%7] + "\n"
		}
		m.Mem = fourWords(m.Mem, 0, impl.Assemble(text+"store r1, r0, 512\nhalt", 0).Words)
		m.Regs[3], m.Regs[4] = 756, 512
		for steps := range int64(6) {
			checkNestedPlain(t, fmt.Sprintf("%q, %d steps", text, steps), sampleNest(m), m, steps)
		}
	}
}

// What is put there may be what was there: the write itself is what counts.
func TestAWriteOfTheSameBytesIsDirty(t *testing.T) {
	for text, spare := range writesOf() {
		m := loadMachine(t, 4, text)
		m.Ctl[impl.CtlStatus], m.Regs[2], m.Regs[1] = impl.StatusVec, 512, 5
		checkNested(t, text, m, 1, []int64{0, 2}, []int64{2})
		spare(&m)
		got := checkNested(t, text+" as it was", m, 1, []int64{0, 2}, []int64{2})
		checkText(t, text+" as it was: memory", got.Machine.Mem, m.Mem)
	}
}

func TestFlagsThatALookupPutsAreDirty(t *testing.T) {
	code := "load r1, r2, 0"
	checkNested(t, "of both", orderMachine(t, code, 0), 1, []int64{3, 1, 2, 0, 4}, []int64{0, 1})
	m := orderMachine(t, code, 0)
	m.Mem = withEntries(m.Mem, tableEntry{1, 0, 2, flagV | flagX | flagA})
	checkNested(t, "of the load", m, 1, []int64{3, 1, 2, 0, 4}, []int64{0})
	m = orderMachine(t, code, flagA)
	m.Mem = withEntries(m.Mem, tableEntry{1, 0, 2, flagV | flagX})
	checkNested(t, "of the fetch", m, 1, []int64{3, 1, 2, 0, 4}, []int64{1})
	checkNested(t, "there already", orderMachine(t, code, flagA), 1, []int64{3, 1, 2, 0, 4}, nil)
	code = "store r1, r2, 0"
	checkNested(t, "D of a store", orderMachine(t, code, flagA), 1, []int64{3, 1, 2, 0, 4}, []int64{0, 4})
	checkNested(t, "both of a store", orderMachine(t, code, 0), 1, []int64{3, 1, 2, 0, 4}, []int64{0, 1, 4})
	checkNested(t, "A of a store", orderMachine(t, code, flagD), 1, []int64{3, 1, 2, 0, 4}, []int64{0, 1, 4})
	checkNested(t, "there already of a store", orderMachine(t, code, flagA|flagD), 1, []int64{3, 1, 2, 0, 4}, []int64{4})
	got := checkNested(t, "in the host, too", orderMachine(t, code, 0), 1, []int64{3, 1, 2, 0, 4}, []int64{0, 1, 4})
	entry := readEntry(got.Host, mappedIn(got.Host, 2, 0), 0)
	checkNumber(t, "the guest's entry in the host", entry, 4*256|flagV|flagR|flagW|flagA|flagD)
}

// Flags that a lookup has put ahead of a trap stay, but what did not come to be written is not dirty.
func TestWhatATrapLeavesDirty(t *testing.T) {
	code := []int64{3, 1, 2}
	for text, cause := range map[string]int64{
		"sys": impl.CauseSys, "hyper 1": impl.CauseHyper, ".word 0": impl.CauseIllegal, "vadd v1, v1, v1": impl.CauseVec,
		"store r1, r2, 1": impl.CauseAlign, "vstore v1, r2": impl.CauseVec, "fadd r1, r3, r1": impl.CauseAlign,
	} {
		m := orderMachine(t, text, 0)
		m.Regs[3] = 8193
		got := checkNested(t, text, m, 1, code, []int64{1})
		checkNumber(t, text+": cause", got.Machine.Ctl[impl.CtlCause], cause)
		checkNested(t, text+", flags there", orderMachine(t, text, flagA), 1, code, nil)
	}
	for text, cause := range map[string]int64{
		"store r1, r2, 0": impl.CauseWrite, "storeb r1, r2, 3": impl.CauseWrite, "swap r1, r2, r3": impl.CauseWrite,
	} {
		m := orderMachine(t, text, 0)
		m.Mem = withEntries(m.Mem, tableEntry{0, 0, 4, flagV | flagR})
		got := checkNested(t, text, m, 1, []int64{3, 1, 2, 0}, []int64{1})
		checkNumber(t, text+": cause", got.Machine.Ctl[impl.CtlCause], cause)
	}
	m := loadMachine(t, 2, "store r1, r0, 512")
	checkNested(t, "a store behind memory", m, 1, []int64{0}, nil)
}

func TestStepsThatTouchNothing(t *testing.T) {
	m := loadMachine(t, 3, "wait\nload r1, r0, 256\nhalt\nstore r0, r0, 512\nputc r0, 7\nret")
	m.Ctl[impl.CtlTimer], m.Ctl[impl.CtlEnable], m.Ctl[impl.CtlStatus], m.Ctl[impl.CtlVector] = 4, 0x80, impl.StatusOn, 12
	checkNested(t, "OpWait", m, 1, []int64{0}, nil)
	checkNested(t, "in StateWait", m, 3, []int64{0}, nil)
	checkNested(t, "the timer", m, 4, []int64{0}, nil)
	checkNested(t, "its code", m, 5, []int64{0, 2}, []int64{2})
	checkNested(t, "and on", m, 9, []int64{0, 2, 1}, []int64{2})
	m = loadMachine(t, 3, "load r1, r0, 256")
	m.Mode, m.Lines, m.Ctl[impl.CtlEnable], m.Ctl[impl.CtlVector] = impl.ModeUser, 0x7f, 0x7f, 512
	checkNested(t, "a user's line", m, 1, nil, nil)
	checkNested(t, "and its code", m, 2, []int64{2}, nil)
	m.State = impl.StateWait
	checkNested(t, "a line that wakes", m, 1, nil, nil)
	m.Mode = impl.ModeKernel
	checkNested(t, "awake without a trap", m, 1, []int64{0, 1}, nil)
}

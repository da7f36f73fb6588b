package tests

import (
	"fmt"
	"testing"

	"loop.example/g00038/impl"
)

// The counts behind each number of steps are Fills, Dirties, Writes, Dropped, Privs, Traps, Lines.
func TestPagesAreFilledOnce(t *testing.T) {
	m := loadMachine(t, 4, "load r1, r0, 256\nloadb r1, r0, 511\nload r1, r0, 512\nload r1, r0, 252\naddi r1, r0, 1")
	checkShadow(t, "nothing yet", m, 0, 0, 0, 0, 0, 0, 0, 0)
	checkShadow(t, "a fetch and a load", m, 1, 2, 0, 0, 0, 0, 0, 0)
	checkShadow(t, "the same page", m, 2, 2, 0, 0, 0, 0, 0, 0)
	checkShadow(t, "another one", m, 3, 3, 0, 0, 0, 0, 0, 0)
	got := checkShadow(t, "that of the fetch", m, 5, 3, 0, 0, 0, 0, 0, 0)
	frames, _ := sampleHost(m)
	checkEntries(t, "in their order", got.Entries, []impl.ShadowEntry{
		{Root: -1, Page: 0, Frame: frames[0]}, {Root: -1, Page: 1, Frame: frames[1]}, {Root: -1, Page: 2, Frame: frames[2]},
	})
}

func TestEachKindOfAccessFills(t *testing.T) {
	for text, dirty := range map[string]bool{
		"load r1, r2, 0": false, "loadb r1, r2, 3": false, "store r1, r2, 0": true, "storeb r1, r2, 1": true,
		"fadd r1, r2, r3": true, "swap r1, r2, r3": true, "ifsame r1, r2, r3": true, "vload v1, r2": false, "vstore v1, r2": true,
	} {
		m := loadMachine(t, 4, text)
		m.Ctl[impl.CtlStatus], m.Regs[2], m.Regs[1] = impl.StatusVec, 768, 5
		got := checkShadow(t, text, m, 1, 2, 0, 0, 0, 0, 0, 0)
		frames, _ := sampleHost(m)
		checkEntries(t, text, got.Entries[1:], []impl.ShadowEntry{{Root: -1, Page: 3, Frame: frames[3], Dirty: dirty}})
	}
}

func TestAPageThatIsReadFirstAndWrittenThen(t *testing.T) {
	m := loadMachine(t, 4, "load r1, r0, 256\nstore r1, r0, 260\nstoreb r1, r0, 511\nload r1, r0, 256\nstore r1, r0, 128\nstore r1, r0, 128")
	checkShadow(t, "read", m, 1, 2, 0, 0, 0, 0, 0, 0)
	checkShadow(t, "written", m, 2, 2, 1, 0, 0, 0, 0, 0)
	checkShadow(t, "written again, and read", m, 4, 2, 1, 0, 0, 0, 0, 0)
	checkShadow(t, "that of the fetch", m, 5, 2, 2, 0, 0, 0, 0, 0)
	got := checkShadow(t, "again", m, 6, 2, 2, 0, 0, 0, 0, 0)
	if !got.Entries[0].Dirty || !got.Entries[1].Dirty {
		t.Errorf("not dirty: %+v", got.Entries)
	}
}

func TestAddressesThatLeadNowhereFillNothing(t *testing.T) {
	m := loadMachine(t, 2, "load r1, r0, 512")
	checkShadow(t, "behind memory", m, 1, 1, 0, 0, 0, 0, 1, 0)
	checkShadow(t, "no multiple of 4", loadMachine(t, 2, "store r1, r0, 257"), 1, 1, 0, 0, 0, 0, 1, 0)
	m.Pc = 512
	checkShadow(t, "a fetch behind memory", m, 1, 0, 0, 0, 0, 0, 1, 0)
	m.Pc = 2
	checkShadow(t, "a fetch between words", m, 1, 0, 0, 0, 0, 0, 1, 0)
	const all = flagA | flagD
	checkShadow(t, "a page that is none", tableMachine(t, "load r1, r0, 1024", all, 0, 0), 1, 1, 0, 0, 0, 0, 1, 0)
	m = tableMachine(t, "store r1, r0, 512", all, 0, 0)
	m.Mem = withEntries(m.Mem, tableEntry{1, 2, 3, flagV | flagR | flagX})
	checkShadow(t, "a page that may not be written", m, 1, 1, 0, 0, 0, 0, 1, 0)
	m.Mem = withEntries(m.Mem, tableEntry{1, 2, 4, flagV | flagR | flagW})
	checkShadow(t, "a frame that is none", m, 1, 1, 0, 0, 0, 0, 1, 0)
	m = tableMachine(t, "load r1, r2, 0", all, 0, 0)
	m.Regs[2] = 262144
	checkShadow(t, "an address that is none", m, 1, 1, 0, 0, 0, 0, 1, 0)
	m.Ctl[impl.CtlTable] = 4
	checkShadow(t, "a root that is none", m, 1, 0, 0, 0, 0, 0, 1, 0)
}

// A frame that two pages lead to has an entry for each of them.
func TestEntriesAreKnownByTheirPages(t *testing.T) {
	m := tableMachine(t, "load r1, r0, 512\nload r1, r0, 768", flagA, 0, 0)
	m.Mem = withEntries(m.Mem, tableEntry{1, 3, 3, flagV | flagR})
	got := checkShadow(t, "two pages", m, 2, 3, 0, 0, 0, 0, 0, 0)
	frames, _ := sampleHost(m)
	checkEntries(t, "two pages", got.Entries, []impl.ShadowEntry{
		{Root: 0, Page: 0, Frame: frames[1], Tables: []int64{0, 1}},
		{Root: 0, Page: 2, Frame: frames[3], Tables: []int64{0, 1}},
		{Root: 0, Page: 3, Frame: frames[3], Tables: []int64{0, 1}},
	})
}

// The greatest page has one entry for each of its pages, made of the root alone.
func TestEntriesOfLargePages(t *testing.T) {
	m := tableMachine(t, "load r1, r2, 0\nload r1, r2, 256\nstore r1, r2, 256", flagA, 0, 0)
	m.Mem = withEntries(m.Mem+emptyMemory(36), tableEntry{0, 5, 32, flagV | flagR | flagW})
	m.Regs[2] = 5 * 8192
	frames, _ := sampleHost(m)
	got := checkShadow(t, "a large page", m, 3, 3, 1, 0, 0, 0, 0, 0)
	checkEntries(t, "a large page", got.Entries[1:], []impl.ShadowEntry{
		{Root: 0, Page: 160, Frame: frames[32], Tables: []int64{0}},
		{Root: 0, Page: 161, Frame: frames[33], Dirty: true, Tables: []int64{0}},
	})
}

// A root that is its own second table is told twice, as it was read twice.
func TestTablesAreToldAsTheyWereRead(t *testing.T) {
	m := tableMachine(t, "load r1, r2, 0", flagA, 0, 0)
	m.Mem = withEntries(m.Mem, tableEntry{0, 3, 0, flagV}, tableEntry{0, 7, 3, flagV | flagR})
	m.Regs[2] = 3*8192 + 7*256
	frames, _ := sampleHost(m)
	got := checkShadow(t, "its own table", m, 1, 2, 0, 0, 0, 0, 0, 0)
	checkEntries(t, "its own table", got.Entries[1:], []impl.ShadowEntry{{Root: 0, Page: 103, Frame: frames[3], Tables: []int64{0, 0}}})
}

func TestAPageInBothModes(t *testing.T) {
	m := loadMachine(t, 2, "load r1, r0, 256\nret\nload r1, r0, 256\nsys\nload r1, r0, 256")
	m.Ctl[impl.CtlFrom], m.Ctl[impl.CtlVector] = 8, 16
	checkShadow(t, "the kernel's", m, 2, 2, 0, 0, 0, 1, 0, 0)
	checkShadow(t, "the user's", m, 3, 4, 0, 0, 0, 1, 0, 0)
	got := checkShadow(t, "the kernel's again", m, 5, 4, 0, 0, 0, 1, 1, 0)
	frames, _ := sampleHost(m)
	checkEntries(t, "both", got.Entries, []impl.ShadowEntry{
		{Root: -1, Page: 0, Frame: frames[0]}, {Root: -1, Page: 1, Frame: frames[1]},
		{User: true, Root: -1, Page: 0, Frame: frames[0]}, {User: true, Root: -1, Page: 1, Frame: frames[1]},
	})
	m = tableMachine(t, "load r1, r0, 512\nret\nhalt", flagA, flagA|flagU, flagA|flagU)
	m.Mem = fourWords(m.Mem, 512, []int64{wordOfText(t, "load r1, r0, 512"), wordOfText(t, "sys")})
	m.Ctl[impl.CtlFrom] = 256
	got = checkShadow(t, "behind a table", m, 5, 4, 0, 0, 0, 1, 1, 0)
	for n, user := range []bool{false, false, true, true} {
		if got.Entries[n].User != user {
			t.Errorf("entry %d: %+v", n, got.Entries[n])
		}
	}
}

// The root is bits 0 to 7 of CtlTable alone, and -1 where there are no pages.
func TestAPageUnderTwoRoots(t *testing.T) {
	m := tableMachine(t, "load r1, r0, 512\nputc r2, 6\nload r1, r0, 512\nputc r3, 6\nload r1, r0, 512\nputc r4, 6\nload r1, r0, 512", flagA, flagA, flagA)
	m.Mem = withEntries(m.Mem, tableEntry{2, 0, 1, flagV})
	m.Regs[2], m.Regs[3], m.Regs[4] = 2, 256, 4294967042
	checkShadow(t, "the first root", m, 2, 2, 0, 0, 0, 1, 0, 0)
	got := checkShadow(t, "the second root", m, 3, 4, 0, 0, 0, 1, 0, 0)
	frames, _ := sampleHost(m)
	checkEntries(t, "both", got.Entries, []impl.ShadowEntry{
		{Root: 0, Page: 0, Frame: frames[1], Tables: []int64{0, 1}}, {Root: 0, Page: 2, Frame: frames[3], Tables: []int64{0, 1}},
		{Root: 2, Page: 0, Frame: frames[1], Tables: []int64{2, 1}}, {Root: 2, Page: 2, Frame: frames[3], Tables: []int64{2, 1}},
	})
	checkShadow(t, "the first root again", m, 5, 4, 0, 0, 0, 2, 0, 0)
	checkShadow(t, "the second root again", m, 7, 4, 0, 0, 0, 3, 0, 0)
}

func TestTheGreatestRoot(t *testing.T) {
	m := tableMachine(t, "load r1, r0, 512", flagA, flagA, flagA)
	m.Mem = withEntries(m.Mem+emptyMemory(252), tableEntry{255, 0, 1, flagV})
	m.Ctl[impl.CtlTable] = 511
	frames, _ := sampleHost(m)
	got := checkShadow(t, "the last frame", m, 1, 2, 0, 0, 0, 0, 0, 0)
	checkEntries(t, "the last frame", got.Entries[1:], []impl.ShadowEntry{{Root: 255, Page: 2, Frame: frames[3], Tables: []int64{255, 1}}})
}

func TestAPageWithAndWithoutATable(t *testing.T) {
	m := tableMachine(t, "putc r2, 0\nload r1, r0, 0\nputc r3, 0\nload r1, r0, 0", flagA, flagA, flagA)
	// Without pages the code goes on at the same address, which is another place.
	m.Mem = fourWords(m.Mem, 128, impl.Assemble("halt\nload r1, r0, 0\nputc r3, 0\nhalt", 0).Words)
	m.Regs[2], m.Regs[3] = 0, impl.StatusPaged
	checkShadow(t, "with one", m, 1, 1, 0, 0, 0, 1, 0, 0)
	checkShadow(t, "without", m, 3, 2, 0, 0, 0, 2, 0, 0)
	got := checkShadow(t, "with one again", m, 4, 2, 0, 0, 0, 2, 0, 0)
	frames, _ := sampleHost(m)
	checkEntries(t, "both", got.Entries, []impl.ShadowEntry{{Root: 0, Page: 0, Frame: frames[1], Tables: []int64{0, 1}}, {Root: -1, Page: 0, Frame: frames[0]}})
}

func TestMoreThanMaxShadowEntries(t *testing.T) {
	m := loadMachine(t, 70, "load r1, r2, 0\naddi r2, r2, 256\neq r0, r0, -2")
	m.Regs[2] = 256
	// Behind 3 * n steps the pages 0 to n were used.
	checkShadow(t, "MaxShadow", m, 3*63, 64, 0, 0, 0, 0, 0, 0)
	got := checkShadow(t, "one more", m, 3*63+1, 65, 0, 0, 1, 0, 0, 0)
	checkNumber(t, "entries", int64(len(got.Entries)), 64)
	checkNumbers(t, "the first and the last", []int64{got.Entries[0].Page, got.Entries[63].Page}, []int64{1, 64})
	got = checkShadow(t, "the code's own again", m, 3*63+2, 66, 0, 0, 2, 0, 0, 0)
	checkNumbers(t, "the first and the last", []int64{got.Entries[0].Page, got.Entries[63].Page}, []int64{2, 0})
	checkShadow(t, "and on", m, 3*67, 69, 0, 0, 5, 0, 0, 0)
}

// An entry that is used again stays where it stands: the first that came is the first that goes.
func TestAnEntryThatIsUsedStillGoesFirst(t *testing.T) {
	m := loadMachine(t, 70, "load r1, r0, 256\nload r1, r2, 0\naddi r2, r2, 256\neq r0, r0, -3")
	m.Regs[2] = 512
	checkShadow(t, "MaxShadow", m, 4*62, 64, 0, 0, 0, 0, 0, 0)
	got := checkShadow(t, "the code goes", m, 4*62+2, 65, 0, 0, 1, 0, 0, 0)
	checkNumber(t, "the first", got.Entries[0].Page, 1)
	got = checkShadow(t, "it comes back", m, 4*62+3, 66, 0, 0, 2, 0, 0, 0)
	checkNumber(t, "the first", got.Entries[0].Page, 2)
	checkShadow(t, "what went is filled again", m, 4*62+5, 67, 0, 0, 3, 0, 0, 0)
}

// writeMachine reads pages 1 and 2 and comes to what is told then; page 3 is the second table, page 4 the root, which
// both have the flags that a lookup puts already.
func writeMachine(t *testing.T, text string) impl.Machine {
	t.Helper()
	const all = flagA | flagD
	m := tableMachine(t, "load r9, r0, 256\nload r9, r0, 512\n"+text+"\naddi r9, r9, 1", all, all, all)
	m.Mem = withEntries(m.Mem, tableEntry{1, 3, 1, flagV | flagR | flagW | all}, tableEntry{1, 4, 0, flagV | flagR | flagW | all})
	m.Ctl[impl.CtlStatus] |= impl.StatusVec
	return m
}

func TestAWriteToATableLetsItsEntriesGo(t *testing.T) {
	for text := range writesOf() {
		m := writeMachine(t, text)
		m.Regs[2] = 3*256 + 96
		checkShadow(t, text+": ahead", m, 2, 3, 0, 0, 0, 0, 0, 0)
		got := checkShadow(t, text+": the second table", m, 3, 4, 0, 1, 4, 0, 0, 0)
		checkNumber(t, text+": entries", int64(len(got.Entries)), 0)
		checkShadow(t, text+": filled anew", m, 4, 5, 0, 1, 4, 0, 0, 0)
		m.Regs[2] = 4*256 + 96
		checkShadow(t, text+": the root", m, 3, 4, 0, 1, 4, 0, 0, 0)
		m.Regs[2] = 2*256 + 96
		checkShadow(t, text+": no table", m, 3, 3, 1, 0, 0, 0, 0, 0)
	}
}

// What is put there may be what was there: the write itself is what counts.
func TestAWriteThatLeavesATableAsItIs(t *testing.T) {
	for text, spare := range writesOf() {
		m := writeMachine(t, text)
		m.Regs[2] = 3*256 + 96
		spare(&m)
		got := checkShadow(t, text, m, 3, 4, 0, 1, 4, 0, 0, 0)
		checkText(t, text+": memory", got.Machine.Mem, m.Mem)
	}
}

func TestAWriteToATableThatTraps(t *testing.T) {
	for _, text := range []string{"store r1, r2, 1", "fadd r1, r2, r3", "vstore v1, r2"} {
		m := writeMachine(t, text)
		m.Regs[2] = 3*256 + 97
		checkShadow(t, text+": between words", m, 3, 3, 0, 0, 0, 0, 1, 0)
	}
	m := writeMachine(t, "vstore v1, r2")
	m.Regs[2], m.Ctl[impl.CtlStatus] = 3*256+96, impl.StatusPaged
	checkShadow(t, "no vectors", m, 3, 3, 0, 0, 0, 0, 1, 0)
	m = writeMachine(t, "store r1, r0, 864")
	m.Mem = withEntries(m.Mem, tableEntry{1, 3, 1, flagV | flagR})
	checkShadow(t, "not to be written", m, 3, 3, 0, 0, 0, 0, 1, 0)
}

// Entries that are made of other tables, or of none, stay.
func TestEntriesOfOtherTablesStay(t *testing.T) {
	m := writeMachine(t, "load r9, r2, 0\nstore r1, r0, 864")
	m.Mem = withEntries(m.Mem, tableEntry{0, 1, 3, flagV}, tableEntry{3, 0, 2, flagV | flagR | flagA})
	m.Regs[2] = 8192
	got := checkShadow(t, "the second table of some", m, 4, 5, 0, 1, 4, 0, 0, 0)
	frames, _ := sampleHost(m)
	checkEntries(t, "what stays", got.Entries, []impl.ShadowEntry{{Root: 0, Page: 32, Frame: frames[2], Tables: []int64{0, 3}}})
	m.Mem = withWord(m.Mem, 256+128+12, wordOfText(t, "store r1, r0, 1120"))
	checkShadow(t, "the root of all", m, 4, 5, 0, 1, 5, 0, 0, 0)
	m.Mem = withWord(m.Mem, 256+128+12, wordOfText(t, "store r1, r0, 512"))
	checkShadow(t, "the second table of another one", m, 4, 4, 1, 1, 1, 0, 0, 0)
}

// Without pages entries of tables are still there, and a write to one of these counts.
func TestAWriteToATableWithoutPages(t *testing.T) {
	m := writeMachine(t, "putc r3, 0")
	m.Mem = fourWords(m.Mem, 128+12, impl.Assemble("store r1, r0, 480\naddi r9, r9, 1", 0).Words)
	checkShadow(t, "ahead", m, 3, 3, 0, 0, 0, 1, 0, 0)
	got := checkShadow(t, "the write", m, 4, 5, 0, 1, 3, 1, 0, 0)
	frames, _ := sampleHost(m)
	checkEntries(t, "what stays", got.Entries, []impl.ShadowEntry{
		{Root: -1, Page: 0, Frame: frames[0]}, {Root: -1, Page: 1, Frame: frames[1], Dirty: true},
	})
}

// A write to a table of no entry, and one of an entry that went, is none.
func TestAWriteToATableOfNoEntry(t *testing.T) {
	m := loadMachine(t, 4, "store r1, r0, 256\nstore r1, r0, 512\nstore r1, r0, 128")
	checkShadow(t, "no tables at all", m, 3, 3, 1, 0, 0, 0, 0, 0)
	m = writeMachine(t, "putc r3, 0")
	m.Mem = fourWords(m.Mem, 128+12, impl.Assemble("store r1, r0, 480\nstore r1, r0, 484\nstore r1, r0, 228", 0).Words)
	checkShadow(t, "tables that are known no more", m, 6, 5, 1, 1, 3, 1, 0, 0)
}

// A vector in two frames is one access, whose place is that of its first byte.
func TestAVectorAtTheEndOfATable(t *testing.T) {
	m := writeMachine(t, "putc r3, 0")
	m.Mem = fourWords(m.Mem, 128+12, impl.Assemble("vstore v1, r2\nhalt", 0).Words)
	m.Regs[3], m.Regs[2] = impl.StatusVec, 512-8
	got := checkShadow(t, "a table's last words", m, 4, 5, 0, 1, 3, 1, 0, 0)
	checkNumber(t, "entries", int64(len(got.Entries)), 2)
	m.Regs[2] = 240
	checkShadow(t, "the root's last words", m, 4, 4, 1, 1, 3, 1, 0, 0)
	m.Regs[2] = 768 - 8
	checkShadow(t, "behind a table", m, 4, 5, 0, 0, 0, 1, 0, 0)
}

func TestFlagsThatALookupPutsAreNoWrite(t *testing.T) {
	m := tableMachine(t, "load r1, r0, 512\nstore r1, r0, 512\nstore r1, r0, 516", 0, 0, 0)
	got := checkShadow(t, "its fetch and its load", m, 1, 2, 0, 0, 0, 0, 0, 0)
	checkNumber(t, "A of the load", readEntry(got.Machine.Mem, 1, 2)&(flagA|flagD), flagA)
	got = checkShadow(t, "its store", m, 2, 2, 1, 0, 0, 0, 0, 0)
	checkNumber(t, "A and D of the store", readEntry(got.Machine.Mem, 1, 2)&(flagA|flagD), flagA|flagD)
	checkShadow(t, "and one more", m, 3, 2, 1, 0, 0, 0, 0, 0)
}

func TestFlushLetsAllEntriesGo(t *testing.T) {
	m := loadMachine(t, 4, "load r1, r0, 256\nload r1, r0, 512\nflush\nload r1, r0, 256\nflush\nflush")
	checkShadow(t, "ahead", m, 2, 3, 0, 0, 0, 0, 0, 0)
	got := checkShadow(t, "all", m, 3, 3, 0, 0, 3, 1, 0, 0)
	checkNumber(t, "entries", int64(len(got.Entries)), 0)
	checkShadow(t, "filled anew", m, 4, 5, 0, 0, 3, 1, 0, 0)
	checkShadow(t, "again", m, 5, 5, 0, 0, 5, 2, 0, 0)
	checkShadow(t, "its own fetch alone", m, 6, 6, 0, 0, 6, 3, 0, 0)
	m = writeMachine(t, "flush")
	checkShadow(t, "behind a table", m, 3, 3, 0, 0, 3, 1, 0, 0)
}

func TestAFlushThatTrapsLetsNothingGo(t *testing.T) {
	m := loadMachine(t, 2, "load r1, r0, 256\nflush")
	m.Mode = impl.ModeUser
	checkShadow(t, "a user's", m, 2, 2, 0, 0, 0, 0, 1, 0)
	m = loadMachine(t, 2, "load r1, r0, 256\nflush")
	m.Ctl[impl.CtlTimer], m.Ctl[impl.CtlEnable], m.Ctl[impl.CtlStatus], m.Ctl[impl.CtlVector] = 2, 0x80, impl.StatusOn, 4
	checkShadow(t, "a line's", m, 2, 2, 0, 0, 0, 0, 0, 1)
	checkShadow(t, "and its own", m, 3, 2, 0, 0, 2, 1, 0, 1)
}

func TestPrivsAreInstructionsForTheKernel(t *testing.T) {
	for _, i := range everyInstr() {
		m := loadMachine(t, 4, "halt")
		m.Mem = withWord(m.Mem, 0, wordOfInstr(i))
		m.Ctl[impl.CtlStatus] = impl.StatusVec
		what := fmt.Sprintf("%+v", i)
		kernel := impl.RunShadow(m, []int64{0, 1, 2, 3}, emptyMemory(4), 1)
		m.Mode = impl.ModeUser
		user := impl.RunShadow(m, []int64{0, 1, 2, 3}, emptyMemory(4), 1)
		want := int64(0)
		trapped := kernel.Machine.Ctl[impl.CtlCause]
		if i.Op >= impl.OpRet && i.Op <= impl.OpHalt && (trapped == 0 || trapped == impl.CauseHyper) {
			want = 1
		}
		checkNumbers(t, what+": Privs of the kernel and of a user", []int64{kernel.Privs, user.Privs}, []int64{want, 0})
		checkNumber(t, what+": Traps", kernel.Traps, min(trapped, 1))
		checkNumber(t, what+": Traps of a user", user.Traps, min(user.Machine.Ctl[impl.CtlCause], 1))
	}
}

func TestPrivsWithATrap(t *testing.T) {
	checkShadow(t, "a control word that is none", loadMachine(t, 1, "getc r1, 12"), 1, 1, 0, 0, 0, 0, 1, 0)
	checkShadow(t, "a control word below 0", loadMachine(t, 1, "putc r1, -1"), 1, 1, 0, 0, 0, 0, 1, 0)
	checkShadow(t, "a port that is none", loadMachine(t, 1, "out r1, -1"), 1, 1, 0, 0, 0, 0, 1, 0)
	checkShadow(t, "CauseHyper", loadMachine(t, 1, "hyper 7"), 1, 1, 0, 0, 0, 1, 1, 0)
	checkShadow(t, "CauseSys", loadMachine(t, 1, "sys"), 1, 1, 0, 0, 0, 0, 1, 0)
	checkShadow(t, "an illegal word", loadMachine(t, 1, ".word 0"), 1, 1, 0, 0, 0, 0, 1, 0)
	m := loadMachine(t, 1, "hyper 7")
	m.Mode = impl.ModeUser
	checkShadow(t, "a user's hyper", m, 1, 1, 0, 0, 0, 0, 1, 0)
	checkShadow(t, "and the kernel's behind it", m, 2, 2, 0, 0, 0, 1, 2, 0)
}

func TestStepsThatALineTakesOrThatWait(t *testing.T) {
	m := loadMachine(t, 1, "wait\naddi r1, r1, 1\nhalt\nputc r0, 7\nret")
	m.Ctl[impl.CtlTimer], m.Ctl[impl.CtlEnable], m.Ctl[impl.CtlStatus], m.Ctl[impl.CtlVector] = 4, 0x80, impl.StatusOn, 12
	checkShadow(t, "OpWait", m, 1, 1, 0, 0, 0, 1, 0, 0)
	checkShadow(t, "in StateWait", m, 3, 1, 0, 0, 0, 1, 0, 0)
	checkShadow(t, "the timer", m, 4, 1, 0, 0, 0, 1, 0, 1)
	checkShadow(t, "its code", m, 6, 1, 0, 0, 0, 3, 0, 1)
	checkShadow(t, "and on", m, 9, 1, 0, 0, 0, 4, 0, 1)
	m = loadMachine(t, 1, "addi r1, r1, 1")
	m.Mode, m.Lines, m.Ctl[impl.CtlEnable] = impl.ModeUser, 0x7f, 0x7f
	checkShadow(t, "a user's line", m, 1, 0, 0, 0, 0, 0, 0, 1)
	checkShadow(t, "and the kernel", m, 2, 1, 0, 0, 0, 0, 0, 1)
	m.Mode = impl.ModeKernel
	checkShadow(t, "a line without a trap", m, 1, 1, 0, 0, 0, 0, 0, 0)
	m.State = impl.StateWait
	checkShadow(t, "awake without a trap", m, 1, 1, 0, 0, 0, 0, 0, 0)
}

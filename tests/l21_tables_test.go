package tests

import (
	"fmt"
	"math"
	"math/rand"
	"slices"
	"strings"
	"testing"

	"loop.example/g00038/impl"
)

// sampleTables have each kind of Body: none, a word, and all that may be.
func sampleTables() []impl.FirmTable {
	return []impl.FirmTable{firmTable("ABCD", 1, "wxyz"), firmTable("ZZZZ", 255, ""), firmTable("AMZN", 0, strings.Repeat("\xff\x00\x80a", 50))}
}

func manyTables(count int, table impl.FirmTable) []impl.FirmTable {
	return slices.Repeat([]impl.FirmTable{table}, count)
}

// The wanted bytes were reckoned by hand from the document's words.
func TestPutTablesKnown(t *testing.T) {
	mem := checkPutTables(t, "one table", emptyMemory(1), 0, []impl.FirmTable{firmTable("ABCD", 1, "wxyz")})
	checkText(t, "one table", mem[:28], "FIRM\x01\x00\x00\x00\x10\x00\x00\x00\xa9\xb6\xad\xb2ABCD\x07\x01\x0c\x00wxyz")
	mem = checkPutTables(t, "two tables", emptyMemory(2), 256, []impl.FirmTable{firmTable("AAAA", 255, ""), firmTable("ZZZZ", 0, "\xff\xff\xff\xff")})
	checkText(t, "two tables", mem[256:296], "FIRM\x02\x00\x00\x00\x14\x01\x00\x00\x1c\x01\x00\x00\x88\xb4\xad\xb2AAAA\xf5\xff\x08\x00ZZZZ\x90\x00\x0c\x00\xff\xff\xff\xff")
	mem = checkPutTables(t, "no tables", emptyMemory(1), 244, nil)
	checkText(t, "no tables", mem[244:], "FIRM\x00\x00\x00\x00\xba\xb6\xad\xb2")
}

func TestPutTablesHowMany(t *testing.T) {
	mem := filledMemory(16)
	for _, size := range []int{0, 4, 200} {
		table := firmTable("NAME", 9, strings.Repeat("b", size))
		for count := range 11 {
			what := fmt.Sprintf("%d tables with %d bytes", count, size)
			tables := manyTables(count, table)
			put := checkPutTables(t, what, mem, 512, tables)
			checkFirmRead(t, what, checkReadTables(t, what, put, 512), impl.FirmRead{Tables: tables})
		}
		for _, count := range []int{11, 12, 100, 1000, 1001} {
			what := fmt.Sprintf("%d tables with %d bytes", count, size)
			checkText(t, what, checkPutTables(t, what, mem, 512, manyTables(count, table)), "")
		}
	}
	checkText(t, "an empty list", checkPutTables(t, "an empty list", mem, 0, []impl.FirmTable{}), impl.PutTables(mem, 0, nil))
}

// checkTable puts the table alone, ahead of others and behind them.
func checkTable(t *testing.T, what string, table impl.FirmTable, right bool) {
	t.Helper()
	mem := filledMemory(4)
	checkEqual(t, what+": the plain one", plainTableRight(table), right)
	others := sampleTables()
	for n := range len(others) + 1 {
		tables := slices.Insert(slices.Clone(others), n, table)
		put := checkPutTables(t, what, mem, 8, tables)
		if (put != "") != right {
			t.Errorf("%s, as number %d: the table is put: %t", what, n, put != "")
		}
		if right {
			checkFirmRead(t, what, checkReadTables(t, what, put, 8), impl.FirmRead{Tables: tables})
		}
	}
	checkEqual(t, what+": alone", checkPutTables(t, what, mem, 0, []impl.FirmTable{table}) != "", right)
}

func TestPutTablesNames(t *testing.T) {
	for name, right := range map[string]bool{
		"": false, "A": false, "ABC": false, "ABCD": true, "ABCDE": false, "ABCDABCD": false, "AAAA": true, "ZZZZ": true,
		"FIRM": true, "abcd": false, "ABC\n": false, "ABCD\n": false, "\nABCD": false, " ABC": false, "A BC": false, "\u00c4BC": false, "\u00c4\u00c4": false,
		strings.Repeat("A", 65537): false,
	} {
		checkTable(t, fmt.Sprintf("the name %.10q", name), firmTable(name, 1, "body"), right)
	}
	for at := range 4 {
		for _, sign := range []byte{0, 1, ' ', '0', '9', '@', 'A', 'B', 'M', 'Y', 'Z', '[', '_', '`', 'a', 'z', '{', 127, 128, 'A' + 128, 255} {
			name := putAt("NAME", at, string([]byte{sign}))
			checkTable(t, fmt.Sprintf("the name %q", name), firmTable(name, 1, "body"), sign >= 'A' && sign <= 'Z')
		}
	}
}

func TestPutTablesRevs(t *testing.T) {
	for rev, right := range withEnds(map[int64]bool{-1: false, -256: false, 0: true, 1: true, 127: true, 128: true, 254: true, 255: true, 256: false, 257: false, 1 << 32: false, 1<<32 + 1: false}) {
		checkTable(t, fmt.Sprintf("Rev %d", rev), firmTable("NAME", rev, "body"), right)
	}
}

func TestPutTablesBodies(t *testing.T) {
	for size := range 211 {
		checkTable(t, fmt.Sprintf("a Body of %d bytes", size), firmTable("NAME", 1, strings.Repeat("b", size)), size <= 200 && size%4 == 0)
	}
	for _, size := range []int{212, 256, 400, 65528, 65536, 65540, 70000} {
		checkTable(t, fmt.Sprintf("a Body of %d bytes", size), firmTable("NAME", 1, strings.Repeat("b", size)), false)
	}
}

// Each table is put at the one place at which the last byte just fits, and nowhere behind it.
func TestPutTablesPlaces(t *testing.T) {
	for _, frames := range []int{1, 2, 3, 256} {
		for _, tables := range [][]impl.FirmTable{nil, {firmTable("LAST", 3, "")}, sampleTables()[:2], {firmTable("NAME", 1, "body"), firmTable("LAST", 3, strings.Repeat("l", 160))}} {
			mem := filledMemory(min(frames, 3))
			mem += emptyMemory(frames - min(frames, 3))
			whole, size := int64(len(mem)), int64(len(plainFirm(0, tables)))
			for _, at := range []int64{0, 4, 8, 12, whole - size - 4, whole - size} {
				what := fmt.Sprintf("%d frames, %d tables at %d", frames, len(tables), at)
				checkFirmRead(t, what, checkReadTables(t, what, checkPutTables(t, what, mem, at, tables), at), impl.FirmRead{Tables: tables})
			}
			for _, at := range append(wrongTablePlaces(whole, size), whole-size+4, whole-size+8, whole+8, 65536, 65540) {
				what := fmt.Sprintf("%d frames, %d tables at %d", frames, len(tables), at)
				checkText(t, what, checkPutTables(t, what, mem, at, tables), "")
			}
		}
	}
}

func TestPutTablesIntoWhatIsNoMemory(t *testing.T) {
	for what, mem := range wrongMemories() {
		checkText(t, what, checkPutTables(t, what, mem, 0, nil), "")
		checkText(t, what, checkPutTables(t, what, mem, 0, sampleTables()), "")
	}
	for _, mem := range longMemories() {
		checkText(t, "too long a memory", checkPutTables(t, "too long a memory", mem, 0, sampleTables()), "")
	}
}

// All words up to the sum are 0 with it, all bytes of each table are, and what is beside stays as it was.
func TestPutTablesSums(t *testing.T) {
	rng := rand.New(rand.NewSource(2101))
	for n := range 300 {
		what := fmt.Sprintf("tables %d", n)
		mem, tables := randomMemory(rng, 10+rng.Intn(3)), randomFirm(rng)
		at, count := 4*rng.Int63n(64), int64(len(tables))
		put := checkPutTables(t, what, mem, at, tables)
		place := at + 12 + 4*count
		checkNumber(t, what+": the sum of the words", wordSum(put[at:place]), 0)
		checkNumbers(t, what+": the number", []int64{wordAt(put[at+4:place], 0)}, []int64{count})
		for number, table := range tables {
			behind := place + 8 + int64(len(table.Body))
			checkNumber(t, what+": a table's place", wordAt(put, at+8+4*int64(number)), place)
			checkNumber(t, what+": a table's sum", byteSum(put[place:behind]), 0)
			checkNumber(t, what+": a table's length and Rev", wordAt(put, place+4)>>8, (behind-place)<<8+table.Rev)
			place = behind
		}
		checkText(t, what+": ahead of them", put[:at], mem[:at])
		checkText(t, what+": behind them", put[place:], mem[place:])
	}
}

func TestReadTablesOfWhatIsNoMemory(t *testing.T) {
	firm := plainFirm(0, nil)
	for what, mem := range wrongMemories() {
		checkReadCode(t, what, mem, 0, impl.ErrForm)
		if len(mem) > 12 {
			checkReadCode(t, what+", with tables", putText(mem, 0, firm), 0, impl.ErrForm)
		}
	}
	for _, mem := range longMemories() {
		for _, at := range []int64{0, 2, -4, 65536, math.MaxInt64} {
			checkReadCode(t, "too long a memory", putText(mem, 0, firm), at, impl.ErrSize)
		}
	}
}

func TestReadTablesPlaces(t *testing.T) {
	for _, frames := range []int{1, 3, 256} {
		mem := emptyMemory(frames)
		whole := int64(len(mem))
		for _, at := range []int64{0, 4, 128, whole - 12} {
			what := fmt.Sprintf("%d frames, at %d", frames, at)
			read := checkReadTables(t, what, putText(mem, at, plainFirm(at, nil)), at)
			checkFirmRead(t, what, read, impl.FirmRead{})
			checkReadCode(t, what+": nothing there", mem, at, impl.ErrSyntax)
		}
		// There is a place for a word there, but not for all of them.
		for _, at := range []int64{whole - 8, whole - 4} {
			checkReadCode(t, "cut off", putText(mem, at, firmHead(0)[:whole-at]), at, impl.ErrSyntax)
			checkReadCode(t, "nothing there", mem, at, impl.ErrSyntax)
		}
		for _, at := range []int64{
			-1, -4, -8, -256, 1, 2, 3, 5, 126, 127, whole - 3, whole - 2, whole - 1, whole, whole + 1, whole + 4, 2 * whole,
			65536, 1 << 32, 1 << 62, math.MaxInt64, math.MaxInt64 - 3, math.MinInt64, math.MinInt64 + 4,
		} {
			checkReadCode(t, fmt.Sprintf("%d frames, at %d", frames, at), strings.Repeat("FIRM", 64*frames), at, impl.ErrForm)
		}
	}
}

func TestReadTablesWithoutMark(t *testing.T) {
	mem := putText(filledMemory(4), 16, plainFirm(16, sampleTables()))
	for at := range 4 {
		for bit := range 8 {
			checkReadCode(t, fmt.Sprintf("another sign %d", at), otherText(mem, 16+at, 1<<bit), 16, impl.ErrSyntax)
		}
	}
	for _, mark := range []string{"firm", "MRIF", "\x00FIR", "IRMF", "BOOT", "VM1\n"} {
		checkReadCode(t, mark, putText(mem, 16, mark), 16, impl.ErrSyntax)
	}
	checkReadCode(t, "a word ahead", mem, 12, impl.ErrSyntax)
	checkReadCode(t, "a word behind", mem, 20, impl.ErrSyntax)
}

// headMemory has the words alone at a place, as many as told, all leading to one right table at 0.
func headMemory(at int64, count int64) string {
	mem := putText(emptyMemory(2), 0, plainTableText(firmTable("NAME", 1, "body")))
	head := firmHead(count, make([]int64, min(count, 100))...)
	return putText(mem, at, head[:min(int64(len(head)), 512-at)])
}

func TestReadTablesHowMany(t *testing.T) {
	table := firmTable("NAME", 1, "body")
	for count := range int64(11) {
		// The words end behind the memory, or where it ends.
		last := 512 - 12 - 4*count
		for _, at := range []int64{16, last - 4, last} {
			what := fmt.Sprintf("%d tables at %d", count, at)
			read := checkReadTables(t, what, headMemory(at, count), at)
			checkFirmRead(t, what, read, impl.FirmRead{Tables: manyTables(int(count), table)})
		}
		for at := last + 4; at < 512; at += 4 {
			checkReadCode(t, fmt.Sprintf("%d tables at %d", count, at), headMemory(at, count), at, impl.ErrSyntax)
		}
	}
	for _, count := range []int64{11, 12, 100, 255, 256, 266, 1000, 1001, 65536, 65538, 1 << 24, 1 << 30, 1<<31 - 1, 1 << 31, 1<<32 - 2, 1<<32 - 1} {
		for _, at := range []int64{16, 256, 500, 504} {
			checkReadCode(t, fmt.Sprintf("%d tables at %d", count, at), headMemory(at, count), at, impl.ErrSyntax)
		}
	}
}

// Each bit of the words counts; the tables behind them do not.
func TestReadTablesSumOfWords(t *testing.T) {
	mem := putText(filledMemory(4), 16, plainFirm(16, sampleTables()))
	for at := 24; at < 16+24; at++ {
		for bit := range 8 {
			checkReadCode(t, fmt.Sprintf("byte %d", at), otherText(mem, at, 1<<bit), 16, impl.ErrSum)
		}
	}
	// What a word has more another has less.
	turned := withWord(withWord(mem, 24, wordAt(mem, 28)), 28, wordAt(mem, 24))
	want := sampleTables()
	want[0], want[1] = want[1], want[0]
	checkFirmRead(t, "two places turned", checkReadTables(t, "two places turned", turned, 16), impl.FirmRead{Tables: want})
	fewer := withWord(withWord(mem, 20, 2), 32, -wordSum("FIRM"+fourBytes(2)+mem[24:32]))
	checkFirmRead(t, "the first two", checkReadTables(t, "the first two", fewer, 16), impl.FirmRead{Tables: sampleTables()[:2]})
	checkReadCode(t, "one fewer, with the same sum", withWord(mem, 20, 2), 16, impl.ErrSum)
}

// oneTable is memory in which the words at 256 lead to a place, at which a text stands (as much of it as is in memory).
func oneTable(place int64, text string) string {
	mem := emptyMemory(3)
	if among(place, 0, 767) {
		mem = putText(mem, place, text[:min(int64(len(text)), 768-place)])
	}
	return putText(mem, 256, firmHead(1, place))
}

func TestReadTablesTablePlaces(t *testing.T) {
	table := firmTable("NAME", 200, "")
	text := plainTableText(table)
	for _, place := range []int64{0, 4, 8, 124, 248, 272, 300, 508, 756, 760} {
		what := fmt.Sprintf("a table at %d", place)
		checkFirmRead(t, what, checkReadTables(t, what, oneTable(place, text), 256), impl.FirmRead{Tables: []impl.FirmTable{table}})
	}
	for _, place := range []int64{
		1, 2, 3, 5, 6, 7, 501, 758, 759, 761, 762, 763, 764, 765, 766, 767, 768, 772, 1000, 65532, 65536, 65540, 1 << 24,
		1<<31 - 4, 1 << 31, 1<<31 + 4, 1<<32 - 256, 1<<32 - 12, 1<<32 - 8, 1<<32 - 4, 1<<32 - 1,
	} {
		checkReadCode(t, fmt.Sprintf("a table at %d", place), oneTable(place, text), 256, impl.ErrNone)
	}
	// Its first eight bytes are asked for ahead of its name.
	checkReadCode(t, "half a table, with a wrong name", oneTable(764, "name"), 256, impl.ErrNone)
	checkReadCode(t, "a wrong name at no multiple of 4", oneTable(402, "name\x00\x00\x08\x00"), 256, impl.ErrNone)
}

func TestReadTablesNames(t *testing.T) {
	for at := range 4 {
		for sign := range 256 {
			table := firmTable(putAt("NAME", at, string([]byte{byte(sign)})), 3, "body")
			what := fmt.Sprintf("the name %q", table.Name)
			if mem := oneTable(400, plainTableText(table)); sign >= 'A' && sign <= 'Z' {
				checkFirmRead(t, what, checkReadTables(t, what, mem, 256), impl.FirmRead{Tables: []impl.FirmTable{table}})
			} else {
				checkReadCode(t, what, mem, 256, impl.ErrSyntax)
			}
		}
	}
	checkReadCode(t, "a wrong name and a wrong sum", oneTable(400, "nAME\x00\x01\x08\x00"), 256, impl.ErrSyntax)
	checkReadCode(t, "a wrong name and a length that does not end in memory", oneTable(760, "nAME\x00\x01\xd0\x00"), 256, impl.ErrSyntax)
}

func TestReadTablesLengths(t *testing.T) {
	body := strings.Repeat("body", 70)
	for length := range int64(300) {
		mem := oneTable(400, tableText("NAME", 3, length, body))
		what := fmt.Sprintf("length %d", length)
		if !among(length, 8, 208) || length%4 != 0 {
			checkReadCode(t, what, mem, 256, impl.ErrSyntax)
			// The length is asked for ahead of where it ends, and of the sum.
			checkReadCode(t, what+" at the end", oneTable(760, tableText("NAME", 3, length, body)), 256, impl.ErrSyntax)
			checkReadCode(t, what+" and a wrong sum", otherText(mem, 404, 1), 256, impl.ErrSyntax)
			continue
		}
		want := firmTable("NAME", 3, body[:length-8])
		checkFirmRead(t, what, checkReadTables(t, what, mem, 256), impl.FirmRead{Tables: []impl.FirmTable{want}})
		checkReadCode(t, what+" and a wrong sum", otherText(mem, 404, 1), 256, impl.ErrSum)
	}
	for _, length := range []int64{256, 264, 268, 464, 520, 1024, 32768, 32776, 65528, 65532, 65535} {
		checkReadCode(t, fmt.Sprintf("length %d", length), oneTable(400, tableText("NAME", 3, length, body)), 256, impl.ErrSyntax)
	}
}

func TestReadTablesEnds(t *testing.T) {
	body := strings.Repeat("body", 50)
	for length := int64(8); length <= 208; length += 4 {
		text := tableText("NAME", 3, length, body)
		want := impl.FirmRead{Tables: []impl.FirmTable{firmTable("NAME", 3, body[:length-8])}}
		what := fmt.Sprintf("length %d, up to the end", length)
		checkFirmRead(t, what, checkReadTables(t, what, oneTable(768-length, text), 256), want)
		for place := 768 - length + 4; place <= 760; place += 4 {
			what := fmt.Sprintf("length %d at %d", length, place)
			checkReadCode(t, what, oneTable(place, text), 256, impl.ErrNone)
			checkReadCode(t, what+", with a wrong sum", oneTable(place, otherText(text, 4, 1)), 256, impl.ErrNone)
		}
	}
}

func TestReadTablesSums(t *testing.T) {
	table := firmTable("NAME", 170, "bo\x00y\xff\x80\x01z")
	text := plainTableText(table)
	for at := range text {
		for bit := range 8 {
			// A name or a length that is none is told ahead of the sum.
			if at < 4 || at == 6 || at == 7 {
				continue
			}
			checkReadCode(t, fmt.Sprintf("another byte %d", at), oneTable(400, otherText(text, at, 1<<bit)), 256, impl.ErrSum)
		}
	}
	checkReadCode(t, "another name", oneTable(400, "MAME"+text[4:]), 256, impl.ErrSum)
	checkReadCode(t, "another length", oneTable(400, putAt(text, 6, "\x0c")), 256, impl.ErrSum)
	// What a byte has more another has less.
	what := "turned bytes"
	turned := oneTable(400, putAt(text, 8, "ob"))
	checkFirmRead(t, what, checkReadTables(t, what, turned, 256), impl.FirmRead{Tables: []impl.FirmTable{firmTable("NAME", 170, "ob\x00y\xff\x80\x01z")}})
}

// Tables may stand within the words, within one another, and twice.
func TestReadTablesWithinOneAnother(t *testing.T) {
	inner := firmTable("INNE", 7, "iiii")
	outer := firmTable("OUTE", 8, "oooo"+plainTableText(inner)+"oooo")
	mem := putText(emptyMemory(2), 0, plainTableText(outer))
	mem = putText(mem, 256, firmHead(4, 0, 12, 0, 12))
	checkFirmRead(t, "within another", checkReadTables(t, "within another", mem, 256), impl.FirmRead{Tables: []impl.FirmTable{outer, inner, outer, inner}})

	// The words stand in the Body of the table to which they lead.
	words := firmHead(2, 100, 100)
	around := firmTable("AROU", 9, "ahead..."+words+"behind..")
	mem = putText(emptyMemory(1), 100, plainTableText(around))
	checkFirmRead(t, "around the words", checkReadTables(t, "around the words", mem, 116), impl.FirmRead{Tables: []impl.FirmTable{around, around}})

	// The mark itself is a name; the number behind it is no length.
	mem = putText(emptyMemory(1), 0, firmHead(1, 0))
	checkReadCode(t, "at the mark", mem, 0, impl.ErrSyntax)
	for place := int64(4); place < 12; place += 4 {
		checkReadCode(t, "within the words", putText(emptyMemory(1), 0, firmHead(1, place)), 0, impl.ErrSyntax)
	}
	// The first table is right, and its name is the second place, which is none.
	place := wordAt("DABC", 0)
	length := wordAt("\x00\x00\x08\x00", 0)
	named := putText(emptyMemory(1), 0, firmHead(3, 12, place, length-byteSum("DABC\x08")+256))
	checkReadCode(t, "named by a place", named, 0, impl.ErrNone)
}

// Of several tables that are not so the first one is told, with the first thing that is not so.
func TestReadTablesFirstFault(t *testing.T) {
	type state struct {
		place int64
		text  string
		code  int64
	}
	right := plainTableText(firmTable("NAME", 1, "body"))
	states := func(n int64) []state {
		at := 40 * (n + 1)
		return []state{
			{at, right, impl.OK},
			{at + 2, right, impl.ErrNone},
			{1<<32 - 4, "", impl.ErrNone},
			{at, "nAME" + right[4:], impl.ErrSyntax},
			{at, tableText("NAME", 1, 4, ""), impl.ErrSyntax},
			{508 - 40*n, tableText("NAME", 1, 40*n+8, ""), impl.ErrNone},
			{at, otherText(right, 9, 4), impl.ErrSum},
		}
	}
	told := map[int64]int{}
	for _, a := range states(0) {
		for _, b := range states(1) {
			for _, c := range states(2) {
				mem, code := emptyMemory(2), int64(impl.OK)
				for _, s := range []state{a, b, c} {
					if s.text != "" {
						mem = putText(mem, s.place, s.text[:min(int64(len(s.text)), 512-s.place)])
					}
					if code == impl.OK {
						code = s.code
					}
				}
				head := firmHead(3, a.place, b.place, c.place)
				what := fmt.Sprintf("codes %d, %d, %d", a.code, b.code, c.code)
				got := checkReadTables(t, what, putText(mem, 200, head), 200)
				checkNumber(t, what, got.Code, code)
				told[got.Code]++
				// What is wrong with the words is told ahead of them all.
				checkReadCode(t, what+" and a wrong sum", putText(mem, 200, otherText(head, 20, 1)), 200, impl.ErrSum)
				checkReadCode(t, what+" and no mark", putText(mem, 200, otherText(head, 0, 1)), 200, impl.ErrSyntax)
				checkReadCode(t, what+" and no memory", putText(mem, 200, head)[1:], 200, impl.ErrForm)
			}
		}
	}
	if len(told) != 4 {
		t.Errorf("codes %v were told", told)
	}
}

// Whatever memory is read, the answer is the plain one; where it has no code, all tables are right.
func TestReadTablesOfWhatever(t *testing.T) {
	rng := rand.New(rand.NewSource(2102))
	told := map[int64]int{}
	for n := range 20000 {
		what := fmt.Sprintf("memory %d", n)
		tables := randomFirm(rng)
		at := 4 * rng.Int63n(20)
		mem := impl.PutTables(randomMemory(rng, 10), at, tables)
		head := at + 8 + 4*int64(len(tables))
		for range rng.Intn(3) {
			// Whatever is changed behind the number, the sum of the words may be right again.
			place := oneOf(rng, at+rng.Int63n(head-at+4), head+4+4*rng.Int63n(20), head+4+rng.Int63n(300))
			mem = otherText(mem, int(place), byte(1)<<rng.Intn(8))
		}
		if rng.Intn(3) > 0 {
			mem = withWord(mem, head, -wordSum(mem[at:head]))
		}
		read := checkReadTables(t, what, mem, at)
		told[read.Code]++
		for _, table := range read.Tables {
			checkEqual(t, what+": a table that was read is right", plainTableRight(table), true)
		}
	}
	for _, code := range []int64{impl.OK, impl.ErrSyntax, impl.ErrNone, impl.ErrSum} {
		if told[code] < 500 {
			t.Errorf("code %d was told %d times", code, told[code])
		}
	}
}

func TestP42ReadTablesGivesTablesBack(t *testing.T) {
	rng := rand.New(rand.NewSource(42))
	for n := range 2000 {
		what := fmt.Sprintf("tables %d", n)
		mem, tables := randomMemory(rng, 9+rng.Intn(5)), randomFirm(rng)
		size := int64(len(plainFirm(0, tables)))
		last := int64(len(mem)) - size
		at := oneOf(rng, 0, last, 4*rng.Int63n(last/4+1))
		put := checkPutTables(t, what, mem, at, tables)
		checkFirmRead(t, what, checkReadTables(t, what, put, at), impl.FirmRead{Tables: tables})
		// They come back from where they stand also when others are put beside them.
		if other := at + size; among(other, 0, int64(len(mem))-12) {
			checkFirmRead(t, what, impl.ReadTables(impl.PutTables(put, other, nil), at), impl.FirmRead{Tables: tables})
		}
	}
}

// Nothing of an answer is kept: what is done to it is not seen in the next one.
func TestTablesAreNewMemory(t *testing.T) {
	mem := impl.PutTables(emptyMemory(4), 0, sampleTables())
	first := impl.ReadTables(mem, 0)
	for n := range first.Tables {
		first.Tables[n] = impl.FirmTable{Name: "spoilt"}
	}
	checkFirmRead(t, "read again", impl.ReadTables(mem, 0), impl.FirmRead{Tables: sampleTables()})
	board := sampleBoard()
	tables := impl.TablesOf(board)
	read := impl.BoardOf(tables)
	tables[0] = impl.FirmTable{}
	for n := range read.Board.Devices {
		read.Board.Devices[n] = impl.Device{}
	}
	checkTables(t, "told again", impl.TablesOf(board), plainTablesOf(sampleBoard()))
	checkBoardRead(t, "read again", impl.BoardOf(impl.TablesOf(board)), impl.BoardRead{Good: true, Board: sampleBoard()})
}

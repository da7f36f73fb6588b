package tests

import (
	"fmt"
	"math/rand"
	"regexp"
	"slices"
	"strings"
	"testing"

	"loop.example/g00038/impl"
)

var capitals = regexp.MustCompile("^[A-Z]{4}$")

func firmTable(name string, rev int64, body string) impl.FirmTable {
	return impl.FirmTable{Name: name, Rev: rev, Body: body}
}

func plainTableRight(table impl.FirmTable) bool {
	return capitals.MatchString(table.Name) && among(table.Rev, 0, 255) && len(table.Body) <= 200 && len(table.Body)%4 == 0
}

// byteSum is what all bytes sum up to, modulo 256.
func byteSum(text string) int64 {
	sum := int64(0)
	for _, b := range []byte(text) {
		sum += int64(b)
	}
	return sum % 256
}

// wordSum is what all words sum up to, modulo 2^32.
func wordSum(text string) int64 {
	sum := int64(0)
	for at := 0; at < len(text); at += 4 {
		sum += wordAt(text[at:at+4], 0)
	}
	return sum & 0xffffffff
}

// tableText is a table whose length is told as it may not be, with a right sum over all of its bytes, and more behind.
func tableText(name string, rev int64, length int64, body string) string {
	head := name + "\x00" + string([]byte{byte(rev), byte(length), byte(length >> 8)})
	counted := (head + body + bytes0(70000))[:max(length, 8)]
	return name + string([]byte{byte(256 - byteSum(counted))}) + head[5:] + body
}

func plainTableText(table impl.FirmTable) string {
	return tableText(table.Name, table.Rev, int64(8+len(table.Body)), table.Body)
}

// firmHead are the words ahead of the tables, with a right sum; count is told as it may not be.
func firmHead(count int64, places ...int64) string {
	text := "FIRM" + fourBytes(count) + fourBytesEach(places)
	return text + fourBytes(-wordSum(text))
}

func plainFirm(at int64, tables []impl.FirmTable) string {
	var places []int64
	behind := ""
	for _, table := range tables {
		places = append(places, at+int64(12+4*len(tables)+len(behind)))
		behind += plainTableText(table)
	}
	return firmHead(int64(len(tables)), places...) + behind
}

func plainPutTables(mem string, at int64, tables []impl.FirmTable) string {
	wrong := slices.ContainsFunc(tables, func(table impl.FirmTable) bool { return !plainTableRight(table) })
	if !plainMemRight(mem) || len(tables) > 10 || wrong || !among(at, 0, 65535) || at%4 != 0 {
		return ""
	}
	text := plainFirm(at, tables)
	if !within(mem, at, int64(len(text))) {
		return ""
	}
	return putText(mem, at, text)
}

// plainTableAt asks for all that may be wrong with one table, in the document's order.
func plainTableAt(mem string, at int64) (impl.FirmTable, int64) {
	if at%4 != 0 || !within(mem, at, 8) {
		return impl.FirmTable{}, impl.ErrNone
	}
	name, length := mem[at:at+4], wordAt(mem[at+4:at+8], 0)>>16
	switch {
	case !capitals.MatchString(name), !among(length, 8, 208), length%4 != 0:
		return impl.FirmTable{}, impl.ErrSyntax
	case !within(mem, at, length):
		return impl.FirmTable{}, impl.ErrNone
	case byteSum(mem[at:at+length]) != 0:
		return impl.FirmTable{}, impl.ErrSum
	}
	return firmTable(name, int64(mem[at+5]), mem[at+8:at+length]), impl.OK
}

func plainReadTables(mem string, at int64) impl.FirmRead {
	refused := func(code int64) impl.FirmRead { return impl.FirmRead{Code: code} }
	switch {
	case len(mem) > 65536:
		return refused(impl.ErrSize)
	case !plainMemRight(mem), !within(mem, at, 1), at%4 != 0:
		return refused(impl.ErrForm)
	case !within(mem, at, 12), mem[at:at+4] != "FIRM":
		return refused(impl.ErrSyntax)
	}
	count := wordAt(mem[at+4:at+8], 0)
	switch {
	case count > 10, !within(mem, at, 12+4*count):
		return refused(impl.ErrSyntax)
	case wordSum(mem[at:at+12+4*count]) != 0:
		return refused(impl.ErrSum)
	}
	var read impl.FirmRead
	for n := range count {
		place := at + 8 + 4*n
		table, code := plainTableAt(mem, wordAt(mem[place:place+4], 0))
		if code != impl.OK {
			return refused(code)
		}
		read.Tables = append(read.Tables, table)
	}
	return read
}

func plainBoardRight(b impl.Board) bool {
	right := among(b.Frames, 2, 256) && among(b.Cpus, 1, 8) && len(b.Devices) <= 16
	least := int64(0)
	for _, d := range b.Devices {
		right = right && among(d.Kind, 1, 255) && among(d.Port, least, 2047) && among(d.Line, 0, 6)
		least = d.Port + 1
	}
	return right
}

func plainTablesOf(b impl.Board) []impl.FirmTable {
	if !plainBoardRight(b) {
		return nil
	}
	devs := ""
	for _, d := range b.Devices {
		devs += twoBytes(d.Port) + string([]byte{byte(d.Line), byte(d.Kind)})
	}
	return []impl.FirmTable{firmTable("MEMO", 1, fourBytes(b.Frames)), firmTable("CPUS", 1, fourBytes(b.Cpus)), firmTable("DEVS", 1, devs)}
}

// plainBoardOf asks for each thing that the tables of a board have.
func plainBoardOf(tables []impl.FirmTable) impl.BoardRead {
	if len(tables) != 3 {
		return impl.BoardRead{}
	}
	for n, name := range []string{"MEMO", "CPUS", "DEVS"} {
		if tables[n].Name != name || tables[n].Rev != 1 {
			return impl.BoardRead{}
		}
	}
	memo, cpus, devs := tables[0].Body, tables[1].Body, tables[2].Body
	if len(memo) != 4 || len(cpus) != 4 || len(devs) > 64 || len(devs)%4 != 0 {
		return impl.BoardRead{}
	}
	b := impl.Board{Frames: wordAt(memo, 0), Cpus: wordAt(cpus, 0)}
	for at := 0; at < len(devs); at += 4 {
		b.Devices = append(b.Devices, impl.Device{Kind: int64(devs[at+3]), Line: int64(devs[at+2]), Port: plainLow(devs[at : at+2])})
	}
	if !plainBoardRight(b) {
		return impl.BoardRead{}
	}
	return impl.BoardRead{Good: true, Board: b}
}

// bootText is a disk that says whatever it is told to say; the words are as they stand on it.
func bootText(place int64, entry int64, count int64, words string) string {
	head := "BOOT" + fourBytesEach([]int64{place, entry, count, quickMix(words, 71)}) + bytes0(44)
	return head + words + bytes0((64-len(words)%64)%64)
}

func plainMakeBoot(words []int64, place int64, entry int64) string {
	wrong := slices.ContainsFunc(words, func(word int64) bool { return !isPlainWord(word) })
	if !among(place, 0, 65535) || place%4 != 0 || !isPlainWord(entry) || !among(int64(len(words)), 1, 1000) || wrong {
		return ""
	}
	return bootText(place, entry, int64(len(words)), fourBytesEach(words))
}

func plainBoot(disk string, b impl.Board) impl.Booted {
	refused := func(code int64) impl.Booted { return impl.Booted{Code: code} }
	switch {
	case len(disk) > 65536:
		return refused(impl.ErrSize)
	case !plainBoardRight(b), len(disk)%64 != 0:
		return refused(impl.ErrForm)
	case !strings.HasPrefix(disk, "BOOT"):
		return refused(impl.ErrSyntax)
	}
	place, entry, count := wordAt(disk[4:8], 0), wordAt(disk[8:12], 0), wordAt(disk[12:16], 0)
	if place%4 != 0 || !among(count, 1, 1000) || !within(disk, 64, 4*count) {
		return refused(impl.ErrSyntax)
	}
	words, last := disk[64:64+4*count], 256*b.Frames-256
	switch {
	case wordAt(disk[16:20], 0) != quickMix(words, 71):
		return refused(impl.ErrSum)
	case place+4*count > last:
		return refused(impl.ErrSize)
	}
	mem := plainPutTables(putText(emptyMemory(int(b.Frames)), place, words), last, plainTablesOf(b))
	m := impl.Machine{Pc: entry, Mode: 1, Mem: mem, Regs: make([]int64, 16), Ctl: make([]int64, 12), Vec: make([]int64, 16)}
	m.Regs[1], m.Regs[2] = last, count
	return impl.Booted{Machine: m, Regs: plainMeasure([]int64{0, 0}, []impl.Stage{{Reg: 1, Text: words}, {Reg: 0, Text: mem[last:]}})}
}

func plainHello(text string) string {
	if len(text) > 100 {
		return ""
	}
	hello := ""
	for _, b := range []byte(text) {
		hello += fmt.Sprintf("addi r1, r0, %d\nout r1, 1\n", b)
	}
	return hello + "halt\n"
}

func checkTables(t *testing.T, what string, got []impl.FirmTable, want []impl.FirmTable) {
	t.Helper()
	if !slices.Equal(got, want) {
		t.Errorf("%s: got %.300s, want %.300s", what, fmt.Sprintf("%#v", got), fmt.Sprintf("%#v", want))
	}
}

// withRoom is a list with room behind its end, which room tells of: nobody may put something there.
func withRoom[T any](list []T, behind T) (longer []T, room *T) {
	whole := append(slices.Clone(list), behind)
	return whole[:len(list)], &whole[len(list)]
}

// checkPutTables holds the memory against the plain one, and what was handed in against what it was.
func checkPutTables(t *testing.T, what string, mem string, at int64, tables []impl.FirmTable) string {
	t.Helper()
	behind := firmTable("ROOM", 7, "room")
	given, room := withRoom(tables, behind)
	was := strings.Clone(mem)
	got := impl.PutTables(mem, at, given)
	checkMemory(t, what+": PutTables", got, plainPutTables(mem, at, tables))
	checkTables(t, what+": the tables handed in", given, tables)
	checkEqual(t, what+": behind the tables handed in", *room, behind)
	checkMemory(t, what+": the memory handed in", mem, was)
	return got
}

func checkFirmRead(t *testing.T, what string, got impl.FirmRead, want impl.FirmRead) {
	t.Helper()
	checkNumber(t, what+": Code", got.Code, want.Code)
	checkTables(t, what, got.Tables, want.Tables)
}

func checkReadTables(t *testing.T, what string, mem string, at int64) impl.FirmRead {
	t.Helper()
	was := strings.Clone(mem)
	got := impl.ReadTables(mem, at)
	checkFirmRead(t, what+": ReadTables", got, plainReadTables(mem, at))
	checkMemory(t, what+": the memory handed in", mem, was)
	return got
}

func checkReadCode(t *testing.T, what string, mem string, at int64, code int64) {
	t.Helper()
	checkFirmRead(t, what, checkReadTables(t, what, mem, at), impl.FirmRead{Code: code})
}

func sameBoard(a impl.Board, b impl.Board) bool {
	return a.Frames == b.Frames && a.Cpus == b.Cpus && slices.Equal(a.Devices, b.Devices)
}

func copyBoard(b impl.Board) impl.Board {
	b.Devices = slices.Clone(b.Devices)
	return b
}

func checkTablesOf(t *testing.T, what string, b impl.Board) []impl.FirmTable {
	t.Helper()
	was := copyBoard(b)
	got := impl.TablesOf(b)
	checkTables(t, what+": TablesOf", got, plainTablesOf(b))
	checkNumber(t, what+": BoardFault", impl.BoardFault(b), faultCode(plainBoardRight(b)))
	if !sameBoard(b, was) {
		t.Errorf("%s: the board handed in changed", what)
	}
	return got
}

func checkBoardRead(t *testing.T, what string, got impl.BoardRead, want impl.BoardRead) {
	t.Helper()
	if got.Good != want.Good || !sameBoard(got.Board, want.Board) {
		t.Errorf("%s: got %+v, want %+v", what, got, want)
	}
}

func checkBoardOf(t *testing.T, what string, tables []impl.FirmTable) impl.BoardRead {
	t.Helper()
	was := slices.Clone(tables)
	got := impl.BoardOf(tables)
	checkBoardRead(t, what+": BoardOf", got, plainBoardOf(tables))
	checkTables(t, what+": the tables handed in", tables, was)
	return got
}

func checkNoBoard(t *testing.T, what string, tables []impl.FirmTable) {
	t.Helper()
	checkBoardRead(t, what, checkBoardOf(t, what, tables), impl.BoardRead{})
}

func checkMakeBoot(t *testing.T, what string, words []int64, place int64, entry int64) string {
	t.Helper()
	given, room := withRoom(words, 77)
	got := impl.MakeBoot(given, place, entry)
	checkMemory(t, what+": MakeBoot", got, plainMakeBoot(words, place, entry))
	checkNumbers(t, what+": the words handed in", given, words)
	checkNumber(t, what+": behind the words handed in", *room, 77)
	return got
}

func checkBooted(t *testing.T, what string, got impl.Booted, want impl.Booted) {
	t.Helper()
	checkNumber(t, what+": Code", got.Code, want.Code)
	checkMachine(t, what, got.Machine, want.Machine)
	checkNumbers(t, what+": Regs of the boot", got.Regs, want.Regs)
}

func checkBoot(t *testing.T, what string, disk string, b impl.Board) impl.Booted {
	t.Helper()
	board, text := copyBoard(b), strings.Clone(disk)
	got := impl.Boot(disk, b)
	checkBooted(t, what+": Boot", got, plainBoot(disk, b))
	if !sameBoard(b, board) || disk != text {
		t.Errorf("%s: what was handed in changed", what)
	}
	return got
}

func checkBootCode(t *testing.T, what string, disk string, b impl.Board, code int64) {
	t.Helper()
	checkBooted(t, what, checkBoot(t, what, disk, b), impl.Booted{Code: code})
}

func randomTable(rng *rand.Rand, words int) impl.FirmTable {
	name := make([]byte, 4)
	for n := range name {
		name[n] = byte('A' + rng.Intn(26))
	}
	return firmTable(string(name), oneOf(rng, 0, 1, 255, rng.Int63n(256)), randomBytes(rng, 4*rng.Intn(words+1)))
}

func randomFirm(rng *rand.Rand) []impl.FirmTable {
	var tables []impl.FirmTable
	for range rng.Intn(11) {
		tables = append(tables, randomTable(rng, 50))
	}
	return tables
}

func randomBoard(rng *rand.Rand) impl.Board {
	b := impl.Board{Frames: oneOf(rng, 2, 3, 8, 255, 256, 2+rng.Int63n(255)), Cpus: 1 + rng.Int63n(8)}
	ports := rng.Perm(2048)[:rng.Intn(17)]
	slices.Sort(ports)
	for _, port := range ports {
		b.Devices = append(b.Devices, impl.Device{Kind: oneOf(rng, 1, 255, 1+rng.Int63n(255)), Port: int64(port), Line: rng.Int63n(7)})
	}
	return b
}

// manyDevices has the ports from 2047 downwards, rising.
func manyDevices(count int64) []impl.Device {
	var devices []impl.Device
	for n := range count {
		devices = append(devices, impl.Device{Kind: 1 + n%255, Port: 2048 - count + n, Line: n % 7})
	}
	return devices
}

func sampleBoard() impl.Board {
	return impl.Board{Frames: 8, Cpus: 2, Devices: []impl.Device{{Kind: 2, Port: 3, Line: 4}, {Kind: 255, Port: 4, Line: 0}, {Kind: 1, Port: 2047, Line: 6}}}
}

func randomWords(rng *rand.Rand, count int) []int64 {
	words := make([]int64, count)
	for n := range words {
		words[n] = randomWord(rng)
	}
	return words
}

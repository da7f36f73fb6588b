package tests

import (
	"encoding/binary"
	"fmt"
	"math/rand"
	"regexp"
	"slices"
	"strings"
	"testing"

	"loop.example/g00038/impl"
)

func diskWrite(at int64, text string) impl.ImageOp {
	return impl.ImageOp{Kind: impl.ImWrite, At: at, Text: text}
}

func diskTrim(at int64, size int64) impl.ImageOp {
	return impl.ImageOp{Kind: impl.ImTrim, At: at, Size: size}
}

func diskZero(at int64, size int64) impl.ImageOp {
	return impl.ImageOp{Kind: impl.ImZero, At: at, Size: size}
}

func diskSnap(name string) impl.ImageOp { return impl.ImageOp{Kind: impl.ImSnap, Text: name} }

func diskRevert(name string) impl.ImageOp { return impl.ImageOp{Kind: impl.ImRevert, Text: name} }

func diskDrop(name string) impl.ImageOp { return impl.ImageOp{Kind: impl.ImDrop, Text: name} }

func snapOf(name string, table ...int64) impl.Snap { return impl.Snap{Name: name, Table: table} }

func imagesOf(list ...impl.Image) []impl.Image { return list }

// imageText tells an image with its texts quoted, an empty list and none alike.
func imageText(m impl.Image) string {
	return fmt.Sprintf("name %q back %q table %v data %q snaps %q", m.Name, m.Back, m.Table, m.Data, fmt.Sprint(m.Snaps))
}

func chainText(list []impl.Image) string {
	text := ""
	for _, m := range list {
		text += "\n  " + imageText(m)
	}
	return text
}

func checkImage(t *testing.T, what string, got impl.Image, want impl.Image) {
	t.Helper()
	if imageText(got) != imageText(want) {
		t.Errorf("%s: got %s\nwant %s", what, imageText(got), imageText(want))
	}
}

func copyImage(m impl.Image) impl.Image {
	m.Table, m.Data, m.Snaps = slices.Clone(m.Table), slices.Clone(m.Data), slices.Clone(m.Snaps)
	for at := range m.Snaps {
		m.Snaps[at].Table = slices.Clone(m.Snaps[at].Table)
	}
	return m
}

func changedImage(m impl.Image, change func(m *impl.Image)) impl.Image {
	m = copyImage(m)
	change(&m)
	return m
}

// putImage is the list with m in place of the one of its name.
func putImage(list []impl.Image, m impl.Image) []impl.Image {
	list = slices.Clone(list)
	for at := range list {
		if list[at].Name == m.Name {
			list[at] = m
		}
	}
	return list
}

func imageNamed(list []impl.Image, name string) impl.Image {
	for _, m := range list {
		if m.Name == name {
			return m
		}
	}
	return impl.Image{}
}

var imageNames = regexp.MustCompile(`\A[a-z0-9-]{1,20}\z`)

func plainImageName(name string) bool { return imageNames.MatchString(name) }

// plainImageRight is what chapter 14 says of ImageFault, said once more.
func plainImageRight(m impl.Image) bool {
	if !among(int64(len(m.Table)), 1, 64) || len(m.Data) > 128 || len(m.Snaps) > 8 {
		return false
	}
	names := map[string]bool{}
	tables := [][]int64{m.Table}
	for _, s := range m.Snaps {
		names[s.Name] = true
		tables = append(tables, s.Table)
		if !plainImageName(s.Name) || len(s.Table) != len(m.Table) {
			return false
		}
	}
	told := map[int64]bool{}
	for _, entry := range slices.Concat(tables...) {
		told[entry] = true
		if entry < -2 || entry >= int64(len(m.Data)) {
			return false
		}
	}
	for n, text := range m.Data {
		if len(text) != 16 || !told[int64(n)] {
			return false
		}
	}
	return plainImageName(m.Name) && (m.Back == "" || plainImageName(m.Back)) && len(names) == len(m.Snaps)
}

// plainChainRight follows each Back with the images that were met on the way.
func plainChainRight(list []impl.Image) bool {
	byName := map[string]impl.Image{}
	for _, m := range list {
		if !plainImageRight(m) {
			return false
		}
		byName[m.Name] = m
	}
	for _, m := range list {
		met := map[string]bool{m.Name: true}
		for m.Back != "" {
			behind, found := byName[m.Back]
			if !found || met[m.Back] {
				return false
			}
			m = behind
			met[m.Name] = true
		}
	}
	return len(byName) == len(list) && len(list) <= 12
}

// rowOf is a table told as one row of bytes, over the row of what is behind.
func rowOf(m impl.Image, table []int64, behind string) string {
	behind += bytes0(1024)
	row := ""
	for n, entry := range table {
		switch entry {
		case -1:
			row += behind[16*n : 16*n+16]
		case -2:
			row += bytes0(16)
		default:
			row += m.Data[entry]
		}
	}
	return row
}

// plainRow is the disk of an image of a right chain, from the one that is behind all on.
func plainRow(list []impl.Image, name string) string {
	m := imageNamed(list, name)
	if m.Name == "" {
		return ""
	}
	return rowOf(m, m.Table, plainRow(list, m.Back))
}

func plainChainCode(list []impl.Image, name string) int64 {
	switch {
	case len(list) > 1000 || len(name) > 65536:
		return impl.ErrSize
	case !plainChainRight(list):
		return impl.ErrForm
	case imageNamed(list, name).Name == "":
		return impl.ErrNone
	}
	return impl.OK
}

func plainReadImage(list []impl.Image, name string, at int64, size int64) impl.ImageRead {
	if code := plainChainCode(list, name); code != impl.OK {
		return impl.ImageRead{Code: code}
	}
	row := plainRow(list, name)
	if at < 0 || size < 0 || at > 1024 || size > 1024 || at+size > int64(len(row)) {
		return impl.ImageRead{Code: impl.ErrSize}
	}
	return impl.ImageRead{Data: row[at : at+size]}
}

// plainCluster is known by its address, so that it needs no number.
type plainCluster struct{ text string }

type plainTable []*plainCluster

var (
	plainBack = &plainCluster{"back"}
	plainZero = &plainCluster{"zero"}
)

// plainImage has its tables by names, its own one without; order are the clusters as they came.
type plainImage struct {
	name, back, behind string
	tables             map[string]plainTable
	snaps              []string
	order              []*plainCluster
}

func newPlainImage(list []impl.Image, name string) *plainImage {
	m := imageNamed(list, name)
	p := &plainImage{name: m.Name, back: m.Back, tables: map[string]plainTable{}}
	p.behind = (plainRow(list, m.Back) + bytes0(1024))[:16*len(m.Table)]
	for _, text := range m.Data {
		p.order = append(p.order, &plainCluster{text})
	}
	for _, s := range append([]impl.Snap{{Table: m.Table}}, m.Snaps...) {
		if s.Name != "" {
			p.snaps = append(p.snaps, s.Name)
		}
		for _, entry := range s.Table {
			c := map[int64]*plainCluster{-1: plainBack, -2: plainZero}[entry]
			if entry >= 0 {
				c = p.order[entry]
			}
			p.tables[s.Name] = append(p.tables[s.Name], c)
		}
	}
	return p
}

func (p *plainImage) numbers(name string) []int64 {
	var table []int64
	for _, c := range p.tables[name] {
		switch c {
		case plainBack:
			table = append(table, -1)
		case plainZero:
			table = append(table, -2)
		default:
			table = append(table, int64(slices.Index(p.order, c)))
		}
	}
	return table
}

func (p *plainImage) image() impl.Image {
	m := impl.Image{Name: p.name, Back: p.back, Table: p.numbers("")}
	for _, c := range p.order {
		m.Data = append(m.Data, c.text)
	}
	for _, name := range p.snaps {
		m.Snaps = append(m.Snaps, impl.Snap{Name: name, Table: p.numbers(name)})
	}
	return m
}

func (p *plainImage) users(c *plainCluster) int {
	users := 0
	for _, table := range p.tables {
		for _, other := range table {
			if other == c {
				users++
			}
		}
	}
	return users
}

func (p *plainImage) reads(n int) string {
	switch c := p.tables[""][n]; c {
	case plainBack:
		return p.behind[16*n : 16*n+16]
	case plainZero:
		return bytes0(16)
	default:
		return c.text
	}
}

// write counts first how many clusters would come, and then does it byte by byte.
func (p *plainImage) write(at int64, text string) int64 {
	table := p.tables[""]
	if text == "" || at < 0 || at > 1024 || at+int64(len(text)) > int64(16*len(table)) {
		return impl.ErrSize
	}
	left := map[*plainCluster]int{}
	come := 0
	for n := at / 16; n <= (at+int64(len(text))-1)/16; n++ {
		c := table[n]
		if c != plainBack && c != plainZero && p.users(c)-left[c] == 1 {
			continue
		}
		left[c]++
		come++
	}
	if len(p.order)+come > 128 {
		return impl.ErrCount
	}
	for i := range text {
		place := int(at) + i
		n := place / 16
		c := table[n]
		if c == plainBack || c == plainZero || p.users(c) > 1 {
			c = &plainCluster{p.reads(n)}
			p.order = append(p.order, c)
			table[n] = c
		}
		c.text = c.text[:place%16] + text[i:i+1] + c.text[place%16+1:]
	}
	return impl.OK
}

func (p *plainImage) fill(at int64, size int64, c *plainCluster) int64 {
	table := p.tables[""]
	if size < 1 || size > 64 || at < 0 || at > 64 || at+size > int64(len(table)) {
		return impl.ErrSize
	}
	for n := at; n < at+size; n++ {
		table[n] = c
	}
	return impl.OK
}

func (p *plainImage) snap(name string) int64 {
	switch {
	case !plainImageName(name):
		return impl.ErrForm
	case slices.Contains(p.snaps, name):
		return impl.ErrConflict
	case len(p.snaps) >= 8:
		return impl.ErrCount
	}
	p.snaps = append(p.snaps, name)
	p.tables[name] = slices.Clone(p.tables[""])
	return impl.OK
}

func (p *plainImage) do(op impl.ImageOp) int64 {
	switch op.Kind {
	case 1:
		return p.write(op.At, op.Text)
	case 2:
		return p.fill(op.At, op.Size, plainBack)
	case 3:
		return p.fill(op.At, op.Size, plainZero)
	case 4:
		return p.snap(op.Text)
	case 5, 6:
		if !slices.Contains(p.snaps, op.Text) {
			return impl.ErrNone
		}
		if op.Kind == 5 {
			p.tables[""] = slices.Clone(p.tables[op.Text])
			return impl.OK
		}
		delete(p.tables, op.Text)
		p.snaps = slices.DeleteFunc(p.snaps, func(name string) bool { return name == op.Text })
		return impl.OK
	}
	return impl.ErrForm
}

func plainRunImage(list []impl.Image, name string, ops []impl.ImageOp) impl.ImageRun {
	if len(ops) > 1000 {
		return impl.ImageRun{Code: impl.ErrSize}
	}
	if code := plainChainCode(list, name); code != impl.OK {
		return impl.ImageRun{Code: code}
	}
	p := newPlainImage(list, name)
	var codes []int64
	for _, op := range ops {
		codes = append(codes, p.do(op))
		p.order = slices.DeleteFunc(p.order, func(c *plainCluster) bool { return p.users(c) == 0 })
	}
	return impl.ImageRun{Image: p.image(), Codes: codes}
}

// spoilLists writes over all that an answer holds, which shows where it shares memory.
func spoilLists(m impl.Image) {
	for _, table := range append([][]int64{m.Table}, snapTables(m)...) {
		for n := range table {
			table[n] = 99
		}
	}
	for n := range m.Data {
		m.Data[n] = "spoiled"
	}
	for n := range m.Snaps {
		m.Snaps[n] = impl.Snap{}
	}
}

func snapTables(m impl.Image) [][]int64 {
	var tables [][]int64
	for _, s := range m.Snaps {
		tables = append(tables, s.Table)
	}
	return tables
}

// checkApart holds that no two tables of an image share memory: a write to one changes no other one.
func checkApart(t *testing.T, what string, m impl.Image) {
	t.Helper()
	tables := append([][]int64{m.Table}, snapTables(m)...)
	for n, table := range tables {
		was := fmt.Sprint(slices.Delete(slices.Clone(tables), n, n+1))
		kept := slices.Clone(table)
		for at := range table {
			table[at] = 77
		}
		if is := fmt.Sprint(slices.Delete(slices.Clone(tables), n, n+1)); is != was {
			t.Errorf("%s: table %d shares memory with another one", what, n)
		}
		copy(table, kept)
	}
}

// checkRunImage holds a run to the plain one, and what was handed in to what it was.
func checkRunImage(t *testing.T, what string, list []impl.Image, name string, ops []impl.ImageOp) impl.ImageRun {
	t.Helper()
	was, wasOps := chainText(list), fmt.Sprintf("%+v", ops)
	got, want := impl.RunImage(list, name, ops), plainRunImage(list, name, ops)
	checkNumber(t, what+": code", got.Code, want.Code)
	checkNumbers(t, what+": codes", got.Codes, want.Codes)
	checkImage(t, what, got.Image, want.Image)
	checkApart(t, what, got.Image)
	if want.Code == impl.OK {
		checkNumber(t, what+": ImageFault behind it", impl.ImageFault(got.Image), impl.OK)
	}
	again := impl.RunImage(list, name, ops)
	spoilLists(again.Image)
	checkText(t, what+": what was handed in", chainText(list), was)
	checkText(t, what+": ops that were handed in", fmt.Sprintf("%+v", ops), wasOps)
	return got
}

func wordText(n uint32) string { return string(binary.LittleEndian.AppendUint32(nil, n)) }

// plainPack is the text without its sum.
func plainPack(m impl.Image) string {
	text := "IMG1" + wordText(uint32(len(m.Table))) + wordText(uint32(len(m.Data))) + wordText(uint32(len(m.Snaps)))
	name := func(name string) { text += string([]byte{byte(len(name))}) + name }
	table := func(table []int64) {
		for _, entry := range table {
			text += wordText(uint32(entry + 2))
		}
	}
	name(m.Name)
	name(m.Back)
	table(m.Table)
	text += strings.Join(m.Data, "")
	for _, s := range m.Snaps {
		name(s.Name)
		table(s.Table)
	}
	return text
}

func withSum(text string) string { return text + wordText(uint32(mixOf(text, 7))) }

// plainPieces cuts a text behind its three numbers into its parts: names (n), tables (t), all Data (d) and the sum (s).
func plainPieces(text string, clusters int, data int, parts string) (pieces []string, at int, whole bool) {
	at = 16
	for _, part := range parts {
		size := map[rune]int{'n': 1, 't': 4 * clusters, 'd': 16 * data, 's': 4}[part]
		if part == 'n' && at < len(text) {
			size += int(text[at])
		}
		if at+size > len(text) {
			return nil, 0, false
		}
		pieces = append(pieces, text[at:at+size])
		at += size
	}
	return pieces, at, true
}

func plainEntries(piece string) []int64 {
	var table []int64
	for at := 0; at < len(piece); at += 4 {
		table = append(table, int64(binary.LittleEndian.Uint32([]byte(piece[at:at+4])))-2)
	}
	return table
}

func plainUnpack(text string) impl.Unpacked {
	if len(text) > 65536 {
		return impl.Unpacked{Code: impl.ErrSize}
	}
	if !strings.HasPrefix(text, "IMG1") {
		return impl.Unpacked{Code: impl.ErrSyntax}
	}
	early := impl.Unpacked{Code: impl.ErrSyntax, At: int64(len(text))}
	var counts [3]int
	for n, most := range []uint32{64, 128, 8} {
		at := 4 + 4*n
		if len(text) < at+4 {
			return early
		}
		word := binary.LittleEndian.Uint32([]byte(text[at : at+4]))
		if word > most {
			return impl.Unpacked{Code: impl.ErrSyntax, At: int64(at)}
		}
		counts[n] = int(word)
	}
	pieces, end, whole := plainPieces(text, counts[0], counts[1], "nntd"+strings.Repeat("nt", counts[2])+"s")
	if !whole {
		return early
	}
	if end < len(text) {
		return impl.Unpacked{Code: impl.ErrSyntax, At: int64(end)}
	}
	if pieces[len(pieces)-1] != wordText(uint32(mixOf(text[:end-4], 7))) {
		return impl.Unpacked{Code: impl.ErrSum, At: int64(end - 4)}
	}
	m := impl.Image{Name: pieces[0][1:], Back: pieces[1][1:], Table: plainEntries(pieces[2])}
	for at := 0; at < len(pieces[3]); at += 16 {
		m.Data = append(m.Data, pieces[3][at:at+16])
	}
	for n := range counts[2] {
		m.Snaps = append(m.Snaps, impl.Snap{Name: pieces[4+2*n][1:], Table: plainEntries(pieces[5+2*n])})
	}
	if !plainImageRight(m) {
		return impl.Unpacked{Code: impl.ErrForm}
	}
	return impl.Unpacked{Image: m}
}

func checkUnpacked(t *testing.T, what string, got impl.Unpacked, want impl.Unpacked) {
	t.Helper()
	checkNumbers(t, what+": code and place", []int64{got.Code, got.At}, []int64{want.Code, want.At})
	checkImage(t, what, got.Image, want.Image)
}

func checkUnpack(t *testing.T, what string, text string) impl.Unpacked {
	t.Helper()
	got := impl.UnpackImage(text)
	checkUnpacked(t, what, got, plainUnpack(text))
	checkApart(t, what, got.Image)
	return got
}

func randomCluster(rng *rand.Rand) string {
	text := make([]byte, 16)
	for n := range text {
		text[n] = byte('a' + rng.Intn(26))
	}
	return string(text)
}

// randomImage is a right one; part of its clusters, in the hundred, have texts.
func randomImage(rng *rand.Rand, name string, back string, clusters int, snaps int, part int) impl.Image {
	m := impl.Image{Name: name, Back: back}
	table := func() []int64 {
		var table []int64
		for range clusters {
			entry := int64(-1 - rng.Intn(2))
			if rng.Intn(100) < part && len(m.Data) > 0 && rng.Intn(4) == 0 {
				entry = int64(rng.Intn(len(m.Data)))
			} else if rng.Intn(100) < part && len(m.Data) < 128 {
				entry = int64(len(m.Data))
				m.Data = append(m.Data, randomCluster(rng))
			}
			table = append(table, entry)
		}
		return table
	}
	m.Table = table()
	for n := range snaps {
		m.Snaps = append(m.Snaps, impl.Snap{Name: fmt.Sprintf("s%d", n), Table: table()})
	}
	shuffleData(rng, &m)
	return m
}

// shuffleData numbers the texts anew, so that they are not in the order of the tables.
func shuffleData(rng *rand.Rand, m *impl.Image) {
	places := rng.Perm(len(m.Data))
	data := make([]string, len(m.Data))
	for n, place := range places {
		data[place] = m.Data[n]
	}
	m.Data = data
	for _, table := range append([][]int64{m.Table}, snapTables(*m)...) {
		for n, entry := range table {
			if entry >= 0 {
				table[n] = int64(places[entry])
			}
		}
	}
}

// randomImages is a right chain of 1 to 5 images, the one in front among them anywhere.
func randomImages(rng *rand.Rand) []impl.Image {
	var list []impl.Image
	for n := range 1 + rng.Intn(5) {
		back := ""
		if n > 0 && rng.Intn(5) > 0 {
			back = list[rng.Intn(n)].Name
		}
		clusters := int(oneOf(rng, 1, 2, 3, 5, 8, 64))
		list = append(list, randomImage(rng, fmt.Sprintf("i-%d", n), back, clusters, int(oneOf(rng, 0, 1, 2, 3, 8)), int(oneOf(rng, 0, 30, 60, 100))))
	}
	rng.Shuffle(len(list), func(a int, b int) { list[a], list[b] = list[b], list[a] })
	return list
}

// randomImageOp is mostly one that can be done.
func randomImageOp(rng *rand.Rand, m impl.Image) impl.ImageOp {
	clusters := int64(len(m.Table))
	op := impl.ImageOp{Kind: oneOf(rng, 1, 1, 1, 1, 2, 3, 4, 4, 5, 6)}
	names := []string{"s0", "s1", "s2", "s3", "s4", "s5", "s6", "s7", "s8", "s9", "", "S"}
	switch op.Kind {
	case impl.ImWrite:
		op.At = rng.Int63n(16 * clusters)
		op.Text = strings.Repeat(string(rune('A'+rng.Intn(26))), int(min(oneOf(rng, 1, 2, 15, 16, 17, 40, 400), 16*clusters-op.At)))
	case impl.ImTrim, impl.ImZero:
		op.At = rng.Int63n(clusters)
		op.Size = min(oneOf(rng, 1, 2, 3, 20), clusters-op.At)
	default:
		op.Text = names[rng.Intn(len(names))]
	}
	if rng.Intn(12) == 0 {
		op.At += oneOf(rng, -1, 1, 16, -1000, 1<<62)
		op.Size += oneOf(rng, -1, 1, 64)
	}
	if rng.Intn(40) == 0 {
		op.Kind = oneOf(rng, 0, 7, -1, 8)
	}
	return op
}

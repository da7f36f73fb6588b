package tests

import (
	"fmt"
	"math"
	"math/rand"
	"slices"
	"strings"
	"testing"

	"loop.example/g00038/impl"
)

// someImage has a text that its table alone tells of, one that two entries of it do, one that a Snap's does too, and one that only a Snap's does.
func someImage() impl.Image {
	return impl.Image{
		Name:  "some",
		Back:  "base",
		Table: []int64{1, -1, 0, -2, 2, 0},
		Data:  []string{cellOf("a"), cellOf("b"), cellOf("c"), cellOf("d")},
		Snaps: []impl.Snap{snapOf("old", -2, 3, -1, 2, -1, -2)},
	}
}

// baseImage is shorter than someImage by two clusters.
func baseImage() impl.Image {
	return impl.Image{Name: "base", Table: []int64{0, 1, -1, -2}, Data: []string{cellOf("x"), "0123456789ABCDEF"}}
}

func someImages() []impl.Image { return imagesOf(someImage(), baseImage()) }

type imageCase struct {
	what   string
	change func(m *impl.Image)
	right  bool
}

func checkImageCases(t *testing.T, base func() impl.Image, cases []imageCase) {
	t.Helper()
	for _, c := range cases {
		checkImageFault(t, c.what, changedImage(base(), c.change), c.right)
	}
}

// checkImageFault holds all calls that take an image to what is said of it.
func checkImageFault(t *testing.T, what string, m impl.Image, right bool) {
	t.Helper()
	was := imageText(m)
	code := int64(impl.ErrForm)
	if right {
		code = impl.OK
	}
	checkNumber(t, what+": ImageFault", impl.ImageFault(m), code)
	if plainImageRight(m) != right {
		t.Errorf("%s: the plain image is not so", what)
	}
	if packed := impl.PackImage(m); (packed != "") != right {
		t.Errorf("%s: PackImage: a text of %d bytes", what, len(packed))
	}
	alone := m
	alone.Back = ""
	if plainImageRight(alone) == right {
		checkChainFault(t, what+" alone", imagesOf(alone), right)
		checkChainFault(t, what+" in front", imagesOf(alone, impl.Image{Name: "zz", Back: "base", Table: []int64{-2}}, baseImage()), right && alone.Name != "zz" && alone.Name != "base")
	}
	checkText(t, what+": what was handed in", imageText(m), was)
}

// checkChainFault holds all calls that take a list of images to what is said of it.
func checkChainFault(t *testing.T, what string, list []impl.Image, right bool) {
	t.Helper()
	was := chainText(list)
	code := int64(impl.ErrForm)
	if right {
		code = impl.OK
	}
	checkNumber(t, what+": ChainFault", impl.ChainFault(list), code)
	if plainChainRight(list) != right {
		t.Errorf("%s: the plain chain is not so", what)
	}
	names := []string{"", "none"}
	if len(list) > 0 {
		names = append(names, list[0].Name, list[len(list)-1].Name)
	}
	for _, name := range names {
		checkReadImage(t, what, list, name, 0, 1)
		checkRunImage(t, what, list, name, []impl.ImageOp{diskZero(0, 1)})
	}
	checkText(t, what+": what was handed in", chainText(list), was)
}

// checkReadImage holds ReadImage and DiskOf to the row of bytes that a disk is.
func checkReadImage(t *testing.T, what string, list []impl.Image, name string, at int64, size int64) impl.ImageRead {
	t.Helper()
	was := chainText(list)
	got, want := impl.ReadImage(list, name, at, size), plainReadImage(list, name, at, size)
	checkNumber(t, what+": ReadImage", got.Code, want.Code)
	checkText(t, what+": ReadImage", got.Data, want.Data)
	disk := ""
	if plainChainCode(list, name) == impl.OK {
		disk = plainRow(list, name)
	}
	checkText(t, what+": DiskOf", impl.DiskOf(list, name), disk)
	checkText(t, what+": what was handed in", chainText(list), was)
	return got
}

func TestConstantsOfImages(t *testing.T) {
	checkNumbers(t, "bounds", []int64{impl.ClusterSize, impl.MaxClusters, impl.MaxSnaps, impl.MaxImages}, []int64{16, 64, 8, 12})
	checkNumbers(t, "entries", []int64{impl.ClusterBack, impl.ClusterZero}, []int64{-1, -2})
	kinds := []int64{impl.ImWrite, impl.ImTrim, impl.ImZero, impl.ImSnap, impl.ImRevert, impl.ImDrop}
	checkNumbers(t, "ops", kinds, []int64{1, 2, 3, 4, 5, 6})
}

// namesOf are names, and whether they are such.
func namesOf() map[string]bool {
	names := map[string]bool{
		"":                             false,
		"a":                            true,
		"abcdefghijklmnopqrst":         true,
		"abcdefghijklmnopqrstu":        false,
		"uvwxyz0123456789-":            true,
		"--------------------":         true,
		"0":                            true,
		"-":                            true,
		"a b":                          false,
		"a\n":                          false,
		"\na":                          false,
		"no_line":                      false,
		"\u00e4":                       false,
		"a\u00df":                      false,
		strings.Repeat("a", 256):       false,
		strings.Repeat("a", 256+1):     false,
		strings.Repeat("a", 65536):     false,
		strings.Repeat("a", 65536+1):   false,
		"abcdefghijklmnopqrs" + "T":    false,
		"T" + "abcdefghijklmnopqrs":    false,
		"abcdefghijklmnopqrs" + "\x00": false,
	}
	for sign := range 256 {
		isSign := sign >= 'a' && sign <= 'z' || sign >= '0' && sign <= '9' || sign == '-'
		one := string([]byte{byte(sign)})
		for _, name := range []string{one, one + "q", "q" + one, "q" + one + "q"} {
			names[name] = isSign
		}
	}
	return names
}

func TestImageOfNames(t *testing.T) {
	for name, right := range namesOf() {
		what := fmt.Sprintf("%d signs %q", len(name), name[:min(len(name), 30)])
		m := someImage()
		m.Name = name
		checkImageFault(t, "name of "+what, m, right)
		m = someImage()
		m.Back = name
		checkImageFault(t, "back of "+what, m, right || name == "")
		m = someImage()
		m.Snaps[0].Name = name
		checkImageFault(t, "snap of "+what, m, right)
	}
	m := someImage()
	m.Back = m.Name
	checkImageFault(t, "its own name behind it", m, true)
	m.Snaps[0].Name = m.Name
	checkImageFault(t, "its own name as a Snap's", m, true)
}

func TestImageOfTables(t *testing.T) {
	size := func(count int) func(m *impl.Image) {
		return func(m *impl.Image) {
			*m = impl.Image{Name: "a", Table: slices.Repeat([]int64{-1}, count)}
		}
	}
	cases := []imageCase{
		{"as it is", func(m *impl.Image) {}, true},
		{"no entry", size(0), false},
		{"one entry", size(1), true},
		{"MaxClusters", size(64), true},
		{"one more", size(65), false},
		{"far more", size(5000), false},
		{"nothing", func(m *impl.Image) { *m = impl.Image{} }, false},
		{"a name alone", func(m *impl.Image) { *m = impl.Image{Name: "a"} }, false},
		{"no table but a Snap", func(m *impl.Image) { *m = impl.Image{Name: "a", Snaps: []impl.Snap{{Name: "s"}}} }, false},
	}
	for _, at := range []int{1, 3} {
		for entry, right := range map[int64]bool{
			-3: false, -2: true, -1: true, 0: true, 1: true, 3: true, 4: false, 5: false, 128: false,
			math.MinInt64: false, math.MaxInt64: false, 1 << 32: false, 1<<32 - 1: false, -1 << 32: false,
		} {
			cases = append(cases, imageCase{fmt.Sprintf("entry %d is %d", at, entry), func(m *impl.Image) { m.Table[at] = entry }, right})
		}
	}
	for entry, right := range map[int64]bool{-3: false, -2: true, -1: true, 0: true, 3: true, 4: false, math.MinInt64: false, math.MaxInt64: false} {
		cases = append(cases, imageCase{fmt.Sprintf("the Snap's last entry is %d", entry), func(m *impl.Image) { m.Snaps[0].Table[5] = entry }, right})
	}
	checkImageCases(t, someImage, cases)
	for entry, right := range map[int64]bool{-3: false, -2: true, -1: true, 0: false, 1: false} {
		checkImageFault(t, fmt.Sprintf("%d without Data", entry), impl.Image{Name: "a", Table: []int64{entry}}, right)
	}
}

// fullImage has 64 clusters and count texts, the first 64 in its table, the others in a Snap's.
func fullImage(count int64) impl.Image {
	m := impl.Image{Name: "full", Table: slices.Repeat([]int64{-1}, 64)}
	for n := range count {
		m.Data = append(m.Data, fmt.Sprintf("text number %4d", n))
		if n%64 == 0 && n > 0 {
			m.Snaps = append(m.Snaps, impl.Snap{Name: fmt.Sprintf("s%d", n), Table: slices.Repeat([]int64{-2}, 64)})
		}
		if n < 64 {
			m.Table[n] = n
		} else {
			m.Snaps[n/64-1].Table[n%64] = n
		}
	}
	return m
}

func TestImageOfData(t *testing.T) {
	long := strings.Repeat("x", impl.MaxBytes+1)
	checkImageCases(t, someImage, []imageCase{
		{"a text one byte short", func(m *impl.Image) { m.Data[1] = m.Data[1][1:] }, false},
		{"a text one byte long", func(m *impl.Image) { m.Data[1] += "b" }, false},
		{"the first one is short", func(m *impl.Image) { m.Data[0] = m.Data[0][1:] }, false},
		{"the last one is long", func(m *impl.Image) { m.Data[3] += "b" }, false},
		{"an empty text", func(m *impl.Image) { m.Data[2] = "" }, false},
		{"a text of two clusters", func(m *impl.Image) { m.Data[1] += m.Data[1] }, false},
		{"a text of very many bytes", func(m *impl.Image) { m.Data[1] = long }, false},
		{"two texts alike", func(m *impl.Image) { m.Data[1] = m.Data[0] }, true},
		{"a text of bytes 0", func(m *impl.Image) { m.Data[1] = bytes0(16) }, true},
		{"a last text that no entry tells of", func(m *impl.Image) { m.Data = append(m.Data, cellOf("e")) }, false},
		{"a first text that no entry tells of", func(m *impl.Image) { m.Table[2], m.Table[5] = 1, 1 }, false},
		{"a text in the middle that no entry tells of", func(m *impl.Image) { m.Table[0] = -1 }, false},
		{"a text that the Snap alone tells of", func(m *impl.Image) { m.Table[4] = -1 }, true},
		{"a text that the table alone tells of", func(m *impl.Image) { m.Snaps[0].Table[3] = -1 }, true},
		{"a text that only a Snap told of", func(m *impl.Image) { m.Snaps[0].Table[1] = -1 }, false},
		{"a Snap that is gone", func(m *impl.Image) { m.Snaps = nil }, false},
		{"a Snap and its text that are gone", func(m *impl.Image) { m.Snaps, m.Data = nil, m.Data[:3] }, true},
		{"all entries tell of one", func(m *impl.Image) { m.Snaps, m.Data, m.Table = nil, m.Data[:1], make([]int64, 6) }, true},
	})
	for count, right := range map[int64]bool{0: true, 1: true, 64: true, 65: true, 127: true, 128: true, 129: false, 192: false, 193: false} {
		checkImageFault(t, fmt.Sprintf("%d texts", count), fullImage(count), right)
	}
	many := fullImage(64)
	many.Data = append(many.Data, make([]string, 5000)...)
	checkImageFault(t, "far more texts", many, false)
}

func TestImageOfSnaps(t *testing.T) {
	snaps := func(count int) func(m *impl.Image) {
		return func(m *impl.Image) {
			m.Snaps = slices.Repeat(m.Snaps, count)
			for n := range m.Snaps {
				m.Snaps[n].Name = fmt.Sprintf("s-%d", n)
			}
		}
	}
	second := func(name string, table ...int64) func(m *impl.Image) {
		return func(m *impl.Image) { m.Snaps = append(m.Snaps, impl.Snap{Name: name, Table: table}) }
	}
	checkImageCases(t, someImage, []imageCase{
		{"one", snaps(1), true},
		{"MaxSnaps", snaps(8), true},
		{"one more", snaps(9), false},
		{"far more", snaps(2000), false},
		{"a second one", second("old2", -1, -1, -1, -1, -1, -1), true},
		{"two of one name", second("old", -1, -1, -1, -1, -1, -1), false},
		{"the image's name", second("some", -1, -1, -1, -1, -1, -1), true},
		{"a table without entries", second("new"), false},
		{"a table of fewer entries", second("new", -1, -1, -1, -1, -1), false},
		{"a table of more entries", second("new", -1, -1, -1, -1, -1, -1, -1), false},
		{"a table of very many", second("new", make([]int64, 5000)...), false},
		{"a table whose entry is none", second("new", -1, -1, -1, -1, -1, 4), false},
		{"a table whose first entry is none", second("new", -3, -1, -1, -1, -1, -1), false},
		{"the first Snap's table is short", func(m *impl.Image) { m.Snaps[0].Table = m.Snaps[0].Table[:5] }, false},
		{"the image's table is short", func(m *impl.Image) { m.Table = m.Table[:5] }, false},
	})
	three := someImage()
	three.Snaps = append(three.Snaps, snapOf("b", 0, 0, 0, 0, 0, 0), snapOf("c", 0, 0, 0, 0, 0, 0))
	checkImageFault(t, "three", three, true)
	three.Snaps[2].Name = "b"
	checkImageFault(t, "the last two of one name", three, false)
	three.Snaps[1].Name, three.Snaps[2].Name = "c", "old"
	checkImageFault(t, "the first and the last of one name", three, false)
	checkImageFault(t, "no Snap", impl.Image{Name: "a", Table: []int64{-1}}, true)
}

// rowImages are count images, each with the next one behind it.
func rowImages(count int) []impl.Image {
	var list []impl.Image
	for n := range count {
		list = append(list, impl.Image{Name: fmt.Sprintf("n%d", n), Back: fmt.Sprintf("n%d", n+1), Table: []int64{-1, -1}})
	}
	if count > 0 {
		list[count-1].Back = ""
	}
	return list
}

func TestChainOfImages(t *testing.T) {
	for count, right := range map[int]bool{0: true, 1: true, 2: true, 11: true, 12: true, 13: false, 14: false} {
		checkChainFault(t, fmt.Sprintf("a row of %d", count), rowImages(count), right)
		list := rowImages(count)
		slices.Reverse(list)
		checkChainFault(t, fmt.Sprintf("a row of %d, told from behind", count), list, right)
		for at := range list {
			list[at].Back = ""
		}
		checkChainFault(t, fmt.Sprintf("%d with nothing behind", count), list, right)
		for at := range list {
			list[at].Back = list[0].Name
		}
		if count > 0 {
			list[0].Back = ""
			checkChainFault(t, fmt.Sprintf("%d of which all have one behind", count), list, right)
		}
	}
	for n := range 12 {
		list := rowImages(12)
		list[n].Table = nil
		checkChainFault(t, fmt.Sprintf("image %d is not right", n), list, false)
		list = rowImages(12)
		list[n].Back = "none"
		checkChainFault(t, fmt.Sprintf("what is behind %d is not there", n), list, false)
		list[n].Back = ""
		checkChainFault(t, fmt.Sprintf("nothing is behind %d", n), list, true)
		list[n].Back = "n"
		checkChainFault(t, fmt.Sprintf("a piece of a name is behind %d", n), list, false)
	}
}

func TestChainOfNames(t *testing.T) {
	for first := range 12 {
		for second := range first {
			list := rowImages(12)
			for at := range list {
				list[at].Back = ""
			}
			list[first].Name = list[second].Name
			checkChainFault(t, fmt.Sprintf("%d is called as %d", first, second), list, false)
		}
	}
	m := someImage()
	checkChainFault(t, "what is behind is not there", imagesOf(m), false)
	checkChainFault(t, "it is there", someImages(), true)
	checkChainFault(t, "it is there twice", append(someImages(), baseImage()), false)
	m.Snaps[0].Name = "base"
	checkChainFault(t, "a Snap's name is none of an image", imagesOf(m), false)
}

func TestChainThatComesBack(t *testing.T) {
	for count := 1; count <= 12; count++ {
		for from := range count {
			for to := range from + 1 {
				list := rowImages(count)
				list[from].Back = list[to].Name
				checkChainFault(t, fmt.Sprintf("%d comes back to %d of %d", from, to, count), list, false)
			}
		}
	}
	apart := append(rowImages(4), impl.Image{Name: "x", Back: "y", Table: []int64{-1}}, impl.Image{Name: "y", Back: "x", Table: []int64{-1}})
	checkChainFault(t, "two apart from all others", apart, false)
	apart[5].Back = "n3"
	checkChainFault(t, "which lead into the row", apart, true)
	slices.Reverse(apart)
	checkChainFault(t, "which lead into the row, from behind", apart, true)
}

func TestChainsThatAreTooLong(t *testing.T) {
	for count, code := range map[int]int64{13: impl.ErrForm, 1000: impl.ErrForm, 1001: impl.ErrSize, 3000: impl.ErrSize} {
		list := slices.Repeat(imagesOf(baseImage()), count)
		checkNumber(t, "ChainFault", impl.ChainFault(list), impl.ErrForm)
		for _, name := range []string{"base", "none", ""} {
			what := fmt.Sprintf("%d images, %q", count, name)
			checkAlike(t, what, impl.ReadImage(list, name, 0, 1), impl.ImageRead{Code: code})
			checkAlike(t, what, impl.RunImage(list, name, []impl.ImageOp{diskZero(0, 1)}), impl.ImageRun{Code: code})
			checkText(t, what, impl.DiskOf(list, name), "")
		}
	}
}

// spoilImage changes one thing of an image, mostly so that it is right no more.
func spoilImage(rng *rand.Rand, m *impl.Image) {
	tables := append([][]int64{m.Table}, snapTables(*m)...)
	table := tables[rng.Intn(len(tables))]
	switch rng.Intn(8) {
	case 0:
		m.Name += []string{"", "a", "A", strings.Repeat("x", 17)}[rng.Intn(4)]
	case 1:
		m.Back = []string{"", "b", "B", "i-0"}[rng.Intn(4)]
	case 2:
		if len(m.Data) > 0 {
			m.Data[rng.Intn(len(m.Data))] = cellOf("s")[:oneOf(rng, 0, 15, 16)]
		}
	case 3:
		m.Data = append(m.Data, cellOf("s"))
		m.Table[0] = oneOf(rng, -1, -2, int64(len(m.Data)-1))
	case 4:
		m.Snaps = append(m.Snaps, impl.Snap{Name: []string{"s0", "s7", ""}[rng.Intn(3)], Table: make([]int64, len(m.Table))})
	case 5:
		m.Table = append(m.Table, oneOf(rng, -3, -2, -1, 0))
	default:
		table[rng.Intn(len(table))] = oneOf(rng, -3, -2, -1, 0, int64(len(m.Data))-1, int64(len(m.Data)))
	}
}

func TestImagesThatAreSpoiled(t *testing.T) {
	rng := rand.New(rand.NewSource(1301))
	right, wrong := 0, 0
	for n := range 1500 {
		list := randomImages(rng)
		checkChainFault(t, "right images", list, true)
		m := &list[rng.Intn(len(list))]
		spoilImage(rng, m)
		what := fmt.Sprintf("chain %d: %s", n, chainText(list))
		checkImageFault(t, what, *m, plainImageRight(*m))
		isRight := plainChainRight(list)
		checkChainFault(t, what, list, isRight)
		if isRight {
			right++
		} else {
			wrong++
		}
		if t.Failed() {
			return
		}
	}
	if right < 300 || wrong < 500 {
		t.Errorf("%d chains are right and %d wrong", right, wrong)
	}
}

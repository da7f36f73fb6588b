package tests

import (
	"fmt"
	"math"
	"slices"
	"strings"
	"testing"

	"loop.example/g00038/impl"
)

// checkDiskRun runs ops on the first image of the list and holds their codes and the image behind them to what is said.
func checkDiskRun(t *testing.T, what string, list []impl.Image, ops []impl.ImageOp, codes []int64, want impl.Image) {
	t.Helper()
	run := checkRunImage(t, what, list, list[0].Name, ops)
	checkNumber(t, what+": code", run.Code, impl.OK)
	checkNumbers(t, what+": codes", run.Codes, codes)
	checkImage(t, what, run.Image, want)
}

// checkDiskRefused runs an op that is refused, also behind and ahead of others that are done.
func checkDiskRefused(t *testing.T, what string, list []impl.Image, op impl.ImageOp, code int64) {
	t.Helper()
	checkDiskRun(t, what, list, []impl.ImageOp{op}, []int64{code}, list[0])
	done := checkRunImage(t, what, list, list[0].Name, []impl.ImageOp{diskZero(0, 1)}).Image
	checkDiskRun(t, what+", then done", list, []impl.ImageOp{op, diskZero(0, 1)}, []int64{code, impl.OK}, done)
	checkDiskRun(t, what+", behind one that is done", list, []impl.ImageOp{diskZero(0, 1), op, op}, []int64{impl.OK, code, code}, done)
}

// wholeDisk is the disk of someImages' first image.
func wholeDisk() string {
	return cellOf("b") + "0123456789ABCDEF" + cellOf("a") + bytes0(16) + cellOf("c") + cellOf("a")
}

func TestReadImage(t *testing.T) {
	list := someImages()
	checkText(t, "the disk", impl.DiskOf(list, "some"), wholeDisk())
	checkText(t, "the disk behind", impl.DiskOf(list, "base"), cellOf("x")+"0123456789ABCDEF"+bytes0(32))
	for at := range int64(98) {
		for size := range int64(98) {
			want := impl.ImageRead{Code: impl.ErrSize}
			if at+size <= 96 {
				want = impl.ImageRead{Data: wholeDisk()[at : at+size]}
			}
			if got := impl.ReadImage(list, "some", at, size); got != want {
				t.Errorf("%d bytes at %d: got %+v", size, at, got)
			}
		}
	}
	slices.Reverse(list)
	checkReadImage(t, "the other way round", list, "some", 10, 30)
	checkReadImage(t, "the one behind", list, "base", 10, 30)
}

func TestReadImageThatIsRefused(t *testing.T) {
	far := []int64{-1, -2, math.MinInt64, math.MinInt64 + 1, math.MaxInt64, math.MaxInt64 - 1, math.MaxInt64 - 95, 1 << 62, 1 << 32, 97}
	for _, n := range far {
		for _, other := range append([]int64{0, 1, 95, 96}, far...) {
			what := fmt.Sprintf("%d and %d", n, other)
			checkAlike(t, what, checkReadImage(t, what, someImages(), "some", n, other), impl.ImageRead{Code: impl.ErrSize})
			checkAlike(t, what, checkReadImage(t, what, someImages(), "some", other, n), impl.ImageRead{Code: impl.ErrSize})
		}
	}
	for at, code := range map[int64]int64{95: impl.OK, 96: impl.OK, 97: impl.ErrSize, 98: impl.ErrSize} {
		checkAlike(t, "nothing", checkReadImage(t, "nothing", someImages(), "some", at, 0), impl.ImageRead{Code: code})
	}
	for _, name := range []string{"", "som", "some2", "old", "SOME", "\x00"} {
		checkAlike(t, name, checkReadImage(t, name, someImages(), name, 0, 0), impl.ImageRead{Code: impl.ErrNone})
		checkAlike(t, name, checkReadImage(t, name, someImages(), name, -1, 0), impl.ImageRead{Code: impl.ErrNone})
		checkAlike(t, name, checkReadImage(t, name, imagesOf(someImage()), name, -1, 0), impl.ImageRead{Code: impl.ErrForm})
	}
	checkAlike(t, "no images", checkReadImage(t, "no images", nil, "some", 0, 0), impl.ImageRead{Code: impl.ErrNone})
	checkAlike(t, "not right", checkReadImage(t, "not right", imagesOf(someImage()), "some", 0, 1), impl.ImageRead{Code: impl.ErrForm})
	other := append(someImages(), impl.Image{Name: "other"})
	checkAlike(t, "another one is not right", checkReadImage(t, "another one is not right", other, "some", 0, 1), impl.ImageRead{Code: impl.ErrForm})
}

// A name of very many bytes is refused ahead of a chain that is not right.
func TestImageNamesThatAreTooLong(t *testing.T) {
	for size, code := range map[int]int64{65536: impl.ErrNone, 65537: impl.ErrSize, 200000: impl.ErrSize} {
		name := strings.Repeat("a", size)
		what := fmt.Sprintf("a name of %d bytes", size)
		checkAlike(t, what, impl.ReadImage(someImages(), name, 0, 1), impl.ImageRead{Code: code})
		checkAlike(t, what, impl.RunImage(someImages(), name, nil), impl.ImageRun{Code: code})
		checkText(t, what, impl.DiskOf(someImages(), name), "")
	}
	for size, code := range map[int]int64{65536: impl.ErrForm, 65537: impl.ErrSize} {
		name := strings.Repeat("a", size)
		list := imagesOf(impl.Image{Name: name, Table: []int64{-1}})
		what := fmt.Sprintf("a wrong name of %d bytes", size)
		checkAlike(t, what, impl.ReadImage(list, name, 0, 1), impl.ImageRead{Code: code})
		checkAlike(t, what, impl.RunImage(list, name, nil), impl.ImageRun{Code: code})
		checkText(t, what, impl.DiskOf(list, name), "")
		checkNumber(t, what, impl.ChainFault(list), impl.ErrForm)
		checkNumber(t, what, impl.ImageFault(list[0]), impl.ErrForm)
		checkText(t, what, impl.PackImage(list[0]), "")
	}
}

// Each entry of the one in front, over each of the one behind, over one with all texts.
func TestReadImageThroughSeveral(t *testing.T) {
	bottom := impl.Image{Name: "bottom", Table: []int64{0, 1, 2}, Data: []string{cellOf("x"), cellOf("y"), cellOf("z")}}
	middle := impl.Image{Name: "middle", Back: "bottom", Table: []int64{-1, -2, 0}, Data: []string{cellOf("m")}}
	top := impl.Image{Name: "top", Back: "middle", Table: []int64{-1, -1, -1, -1}}
	list := imagesOf(middle, top, bottom)
	checkText(t, "through all", impl.DiskOf(list, "top"), cellOf("x")+bytes0(16)+cellOf("m")+bytes0(16))
	checkText(t, "the middle one", impl.DiskOf(list, "middle"), cellOf("x")+bytes0(16)+cellOf("m"))
	for n := range 3 {
		own := changedImage(top, func(m *impl.Image) { m.Table[n], m.Data = 0, []string{cellOf("t")} })
		zero := changedImage(top, func(m *impl.Image) { m.Table[n] = -2 })
		whole := impl.DiskOf(list, "top")
		checkText(t, "its own text", impl.DiskOf(putImage(list, own), "top"), whole[:16*n]+cellOf("t")+whole[16*n+16:])
		checkText(t, "zeros", impl.DiskOf(putImage(list, zero), "top"), whole[:16*n]+bytes0(16)+whole[16*n+16:])
	}
	short := changedImage(middle, func(m *impl.Image) { m.Table, m.Data = []int64{-1}, nil })
	checkText(t, "a shorter one between", impl.DiskOf(putImage(list, short), "top"), cellOf("x")+bytes0(48))
	top.Back = ""
	checkText(t, "none behind", impl.DiskOf(putImage(list, top), "top"), bytes0(64))
	top.Back, top.Table = "bottom", []int64{-1}
	checkText(t, "a longer one behind", impl.DiskOf(putImage(list, top), "top"), cellOf("x"))
	row := rowImages(12)
	row[11].Table, row[11].Data = []int64{-2, 0}, []string{"0123456789abcdef"}
	checkText(t, "through twelve", impl.DiskOf(row, "n0"), bytes0(16)+"0123456789abcdef")
	checkText(t, "a part through twelve", impl.ReadImage(row, "n0", 15, 3).Data, "\x0001")
	row[5].Table[1] = -2
	checkText(t, "through five", impl.DiskOf(row, "n0"), bytes0(32))
	checkText(t, "behind those", impl.DiskOf(row, "n6"), bytes0(16)+"0123456789abcdef")
	row[3].Snaps = []impl.Snap{snapOf("s", -2, -2)}
	checkText(t, "a Snap between counts for nothing", impl.DiskOf(row, "n0"), bytes0(32))
}

func TestRunImageThatIsRefused(t *testing.T) {
	ops := []impl.ImageOp{diskZero(0, 1)}
	checkAlike(t, "not right", impl.RunImage(imagesOf(someImage()), "some", ops), impl.ImageRun{Code: impl.ErrForm})
	checkAlike(t, "not right, no such name", impl.RunImage(imagesOf(someImage()), "none", ops), impl.ImageRun{Code: impl.ErrForm})
	checkAlike(t, "no images", impl.RunImage(nil, "some", ops), impl.ImageRun{Code: impl.ErrNone})
	for _, name := range []string{"", "none", "old", "som", "some-"} {
		checkAlike(t, name, impl.RunImage(someImages(), name, ops), impl.ImageRun{Code: impl.ErrNone})
	}
	for count, code := range map[int]int64{0: impl.OK, 1000: impl.OK, 1001: impl.ErrSize, 3000: impl.ErrSize} {
		ops := slices.Repeat([]impl.ImageOp{diskWrite(3, "q")}, count)
		what := fmt.Sprintf("%d ops", count)
		run := checkRunImage(t, what, someImages(), "some", ops)
		checkNumber(t, what, run.Code, code)
		if code == impl.OK {
			checkNumber(t, what, int64(len(run.Codes)), int64(count))
			continue
		}
		checkAlike(t, what, run, impl.ImageRun{Code: code})
		checkAlike(t, what+" on what is not right", impl.RunImage(imagesOf(someImage()), "none", ops), impl.ImageRun{Code: code})
	}
	checkDiskRun(t, "no ops", someImages(), nil, nil, someImage())
	checkDiskRun(t, "no ops on the one behind", imagesOf(baseImage(), someImage()), nil, nil, baseImage())
}

func TestOpsOfNoKind(t *testing.T) {
	for _, kind := range []int64{0, -1, 7, 8, 256 + 1, 1<<32 + 1, math.MinInt64, math.MaxInt64} {
		checkDiskRefused(t, fmt.Sprintf("kind %d", kind), someImages(), impl.ImageOp{Kind: kind, At: 0, Size: 1, Text: "old"}, impl.ErrForm)
		checkDiskRefused(t, fmt.Sprintf("kind %d and nothing else", kind), someImages(), impl.ImageOp{Kind: kind, At: -1, Size: -1}, impl.ErrForm)
	}
}

// A write within one cluster of each kind: behind, zeros, an own text, one that the table has twice, one that a Snap's has too.
func TestImWriteOnEachKind(t *testing.T) {
	list := someImages()
	ok := []int64{impl.OK}
	checkDiskRun(t, "an own text", list, []impl.ImageOp{diskWrite(2, "PQ")}, ok, changedImage(list[0], func(m *impl.Image) {
		m.Data[1] = "bbPQbbbbbbbbbbbb"
	}))
	checkDiskRun(t, "behind", list, []impl.ImageOp{diskWrite(16, "PQ")}, ok, changedImage(list[0], func(m *impl.Image) {
		m.Table[1], m.Data = 4, append(m.Data, "PQ23456789ABCDEF")
	}))
	checkDiskRun(t, "a text that it has twice", list, []impl.ImageOp{diskWrite(46, "PQ")}, ok, changedImage(list[0], func(m *impl.Image) {
		m.Table[2], m.Data = 4, append(m.Data, "aaaaaaaaaaaaaaPQ")
	}))
	checkDiskRun(t, "the second one of it", list, []impl.ImageOp{diskWrite(80, "P")}, ok, changedImage(list[0], func(m *impl.Image) {
		m.Table[5], m.Data = 4, append(m.Data, "Paaaaaaaaaaaaaaa")
	}))
	checkDiskRun(t, "both of it", list, []impl.ImageOp{diskWrite(46, "PQ"), diskWrite(80, "R")}, []int64{0, 0}, changedImage(list[0], func(m *impl.Image) {
		m.Data[0] = "Raaaaaaaaaaaaaaa"
		m.Table[2], m.Data = 4, append(m.Data, "aaaaaaaaaaaaaaPQ")
	}))
	checkDiskRun(t, "zeros", list, []impl.ImageOp{diskWrite(63, "P")}, ok, changedImage(list[0], func(m *impl.Image) {
		m.Table[3], m.Data = 4, append(m.Data, bytes0(15)+"P")
	}))
	checkDiskRun(t, "a text that a Snap has", list, []impl.ImageOp{diskWrite(64, "0123456789abcdef")}, ok, changedImage(list[0], func(m *impl.Image) {
		m.Table[4], m.Data = 4, append(m.Data, "0123456789abcdef")
	}))
	checkDiskRun(t, "which is its own then", list, []impl.ImageOp{diskWrite(64, "0123456789abcdef"), diskWrite(64, "*")}, []int64{0, 0}, changedImage(list[0], func(m *impl.Image) {
		m.Table[4], m.Data = 4, append(m.Data, "*123456789abcdef")
	}))
	alone := changedImage(list[0], func(m *impl.Image) { m.Back = "" })
	checkDiskRun(t, "nothing behind", imagesOf(alone), []impl.ImageOp{diskWrite(17, "PQ")}, ok, changedImage(alone, func(m *impl.Image) {
		m.Table[1], m.Data = 4, append(m.Data, "\x00PQ"+bytes0(13))
	}))
	short := changedImage(list[0], func(m *impl.Image) { m.Table[4] = -1 })
	checkDiskRun(t, "a shorter one behind", imagesOf(short, baseImage()), []impl.ImageOp{diskWrite(79, "P")}, ok, changedImage(short, func(m *impl.Image) {
		m.Table[4], m.Data = 4, append(m.Data, bytes0(15)+"P")
	}))
}

func TestImWriteOverSeveral(t *testing.T) {
	list := someImages()
	text := strings.Repeat("0123456789abcdefghijklmnopqrstuvwxyz", 3)[:96]
	checkDiskRun(t, "the whole disk", list, []impl.ImageOp{diskWrite(0, text)}, []int64{0}, changedImage(list[0], func(m *impl.Image) {
		m.Table = []int64{1, 4, 5, 6, 7, 0}
		m.Data = []string{text[80:], text[:16], m.Data[2], m.Data[3], text[16:32], text[32:48], text[48:64], text[64:80]}
	}))
	checkDiskRun(t, "one byte more", list, []impl.ImageOp{diskWrite(0, text+"*")}, []int64{impl.ErrSize}, list[0])
	checkDiskRun(t, "from within one to within another", list, []impl.ImageOp{diskWrite(15, text[:34])}, []int64{0}, changedImage(list[0], func(m *impl.Image) {
		m.Table = []int64{1, 4, 5, 6, 2, 0}
		m.Data[1] = cellOf("b")[:15] + text[:1]
		m.Data = append(m.Data, text[1:17], text[17:33], text[33:34]+bytes0(15))
	}))
	checkDiskRun(t, "two bytes over an edge", list, []impl.ImageOp{diskWrite(79, "PQ")}, []int64{0}, changedImage(list[0], func(m *impl.Image) {
		m.Table = []int64{1, -1, 0, -2, 4, 5}
		m.Data = append(m.Data, cellOf("c")[:15]+"P", "Q"+cellOf("a")[:15])
	}))
	for at := range int64(98) {
		for _, size := range []int{1, 2, 15, 16, 17, 32, 33, 95, 96, 97} {
			what := fmt.Sprintf("%d bytes at %d", size, at)
			run := checkRunImage(t, what, list, "some", []impl.ImageOp{diskWrite(at, strings.Repeat("*", size))})
			end := int(at) + size
			if end > 96 {
				checkNumbers(t, what, run.Codes, []int64{impl.ErrSize})
				continue
			}
			disk := wholeDisk()[:at] + strings.Repeat("*", size) + wholeDisk()[end:]
			checkText(t, what, impl.DiskOf(putImage(list, run.Image), "some"), disk)
		}
	}
}

func TestImWriteThatDoesNotFit(t *testing.T) {
	list := someImages()
	for _, at := range []int64{-1, -2, -16, -17, 96, 97, 112, 1 << 32, 1 << 62, math.MinInt64, math.MinInt64 + 1, math.MaxInt64, math.MaxInt64 - 1, math.MaxInt64 - 15} {
		for _, text := range []string{"*", "**", cellOf("*"), strings.Repeat("*", 96)} {
			checkDiskRefused(t, fmt.Sprintf("%d bytes at %d", len(text), at), list, diskWrite(at, text), impl.ErrSize)
		}
	}
	for _, at := range []int64{0, 1, 16, 95, 96, 97, -1, math.MinInt64, math.MaxInt64} {
		checkDiskRefused(t, fmt.Sprintf("no text at %d", at), list, diskWrite(at, ""), impl.ErrSize)
	}
	for _, size := range []int{97, 1024, 1025, impl.MaxBytes, impl.MaxBytes + 1, 200000} {
		for _, at := range []int64{0, 95, -1, math.MaxInt64} {
			checkDiskRefused(t, fmt.Sprintf("%d bytes at %d", size, at), list, diskWrite(at, strings.Repeat("*", size)), impl.ErrSize)
		}
	}
	noise := impl.ImageOp{Kind: impl.ImWrite, At: 95, Size: -7, Text: "*"}
	run := checkRunImage(t, "Size counts for nothing", list, "some", []impl.ImageOp{noise})
	checkNumbers(t, "Size counts for nothing", run.Codes, []int64{impl.OK})
}

// heldImage has count texts that all are a Snap's too, so that each cluster that is written needs a new one.
func heldImage(count int64) impl.Image {
	m := fullImage(count)
	m.Snaps = append(m.Snaps, impl.Snap{Name: "held", Table: slices.Clone(m.Table)})
	return m
}

func TestImWriteOfTooManyTexts(t *testing.T) {
	for count := int64(120); count <= 128; count++ {
		list := imagesOf(heldImage(count))
		for clusters := range int64(10) {
			text := strings.Repeat("*", int(16*clusters)+1)
			what := fmt.Sprintf("%d clusters beside %d texts", clusters+1, count)
			run := checkRunImage(t, what, list, "full", []impl.ImageOp{diskWrite(16, text)})
			if count+clusters+1 <= 128 {
				checkNumbers(t, what, run.Codes, []int64{impl.OK})
				checkNumber(t, what, int64(len(run.Image.Data)), count+clusters+1)
				continue
			}
			checkDiskRefused(t, what, list, diskWrite(16, text), impl.ErrCount)
			checkDiskRun(t, what, list, []impl.ImageOp{diskWrite(16, text), diskDrop("held"), diskWrite(16, text)}, []int64{impl.ErrCount, 0, 0}, changedImage(fullImage(count), func(m *impl.Image) {
				for n := range clusters {
					m.Data[1+n] = cellOf("*")
				}
				m.Data[1+clusters] = "*" + m.Data[1+clusters][1:]
			}))
		}
	}
}

// tightImage has 127 texts; of those of its table the numbers 1 and 3 are a Snap's too.
func tightImage() impl.Image {
	m := fullImage(127)
	m.Snaps[0].Table[63] = 1
	m.Snaps = append(m.Snaps, snapOf("two", slices.Repeat([]int64{3}, 64)...))
	return m
}

// Where some clusters are changed in their place, and another one would need a text too many, none is changed.
func TestImWriteOfOneTextTooMany(t *testing.T) {
	full, tight := fullImage(128), tightImage()
	checkDiskRun(t, "all in their place", imagesOf(full), []impl.ImageOp{diskWrite(0, strings.Repeat("*", 1024))}, []int64{0}, changedImage(full, func(m *impl.Image) {
		for n := range 64 {
			m.Data[n] = cellOf("*")
		}
	}))
	checkDiskRun(t, "one more", imagesOf(tight), []impl.ImageOp{diskWrite(15, "****")}, []int64{0}, changedImage(tight, func(m *impl.Image) {
		m.Data[0] = m.Data[0][:15] + "*"
		m.Data = append(m.Data, "***"+m.Data[1][3:])
		m.Table[1] = 127
	}))
	two := []impl.ImageOp{diskWrite(15, strings.Repeat("*", 34)), diskWrite(31, strings.Repeat("*", 18))}
	checkDiskRun(t, "two more", imagesOf(tight), two, []int64{impl.ErrCount, impl.ErrCount}, tight)
	checkDiskRun(t, "one behind a full one", imagesOf(tight), []impl.ImageOp{diskWrite(16, "*"), diskWrite(48, "*"), diskWrite(16, "!")}, []int64{0, impl.ErrCount, 0}, changedImage(tight, func(m *impl.Image) {
		m.Data = append(m.Data, "!"+m.Data[1][1:])
		m.Table[1] = 127
	}))
	checkDiskRun(t, "room that a zero made", imagesOf(tight), append([]impl.ImageOp{diskZero(0, 1)}, two...), []int64{0, impl.ErrCount, 0}, plainRunImage(imagesOf(tight), "full", append([]impl.ImageOp{diskZero(0, 1)}, two[1])).Image)
}

func TestImTrimAndImZero(t *testing.T) {
	for _, kind := range []int64{impl.ImTrim, impl.ImZero} {
		entry := map[int64]int64{impl.ImTrim: -1, impl.ImZero: -2}[kind]
		for at := range int64(8) {
			for size := range int64(9) {
				op := impl.ImageOp{Kind: kind, At: at, Size: size, Text: "noise"}
				what := fmt.Sprintf("kind %d, %d from %d on", kind, size, at)
				if size == 0 || at+size > 6 {
					checkDiskRefused(t, what, someImages(), op, impl.ErrSize)
					continue
				}
				run := checkRunImage(t, what, someImages(), "some", []impl.ImageOp{op})
				checkNumbers(t, what, run.Codes, []int64{impl.OK})
				for n := range int64(6) {
					if n >= at && n < at+size {
						checkNumber(t, what, run.Image.Table[n], entry)
					}
				}
			}
		}
		for _, far := range []int64{-1, -2, -64, math.MinInt64, math.MinInt64 + 1, math.MaxInt64, math.MaxInt64 - 1, math.MaxInt64 - 5, 1 << 62, 1 << 32, 7} {
			for _, other := range []int64{-1, 0, 1, 2, 6, math.MaxInt64, math.MinInt64, far} {
				checkDiskRefused(t, fmt.Sprintf("kind %d, %d from %d on", kind, other, far), someImages(), impl.ImageOp{Kind: kind, At: far, Size: other}, impl.ErrSize)
				checkDiskRefused(t, fmt.Sprintf("kind %d, %d from %d on", kind, far, other), someImages(), impl.ImageOp{Kind: kind, At: other, Size: far}, impl.ErrSize)
			}
		}
		long := impl.ImageOp{Kind: kind, At: 0, Size: 1, Text: strings.Repeat("x", impl.MaxBytes+1)}
		checkNumbers(t, "Text counts for nothing", impl.RunImage(someImages(), "some", []impl.ImageOp{long}).Codes, []int64{impl.OK})
	}
}

// The texts that no entry tells of go, those behind them are told anew, in the Snap's table too.
func TestNumbersOfData(t *testing.T) {
	list := someImages()
	ok := []int64{impl.OK}
	a, b, c, d := cellOf("a"), cellOf("b"), cellOf("c"), cellOf("d")
	old := func(entries ...int64) []impl.Snap { return []impl.Snap{snapOf("old", entries...)} }
	checkDiskRun(t, "one goes", list, []impl.ImageOp{diskZero(0, 1)}, ok, impl.Image{Name: "some", Back: "base", Table: []int64{-2, -1, 0, -2, 1, 0}, Data: []string{a, c, d}, Snaps: old(-2, 2, -1, 1, -1, -2)})
	checkDiskRun(t, "half of two", list, []impl.ImageOp{diskTrim(5, 1)}, ok, impl.Image{Name: "some", Back: "base", Table: []int64{1, -1, 0, -2, 2, -1}, Data: []string{a, b, c, d}, Snaps: old(-2, 3, -1, 2, -1, -2)})
	checkDiskRun(t, "both of two", list, []impl.ImageOp{diskTrim(5, 1), diskTrim(2, 1)}, []int64{0, 0}, impl.Image{Name: "some", Back: "base", Table: []int64{0, -1, -1, -2, 1, -1}, Data: []string{b, c, d}, Snaps: old(-2, 2, -1, 1, -1, -2)})
	checkDiskRun(t, "one that the Snap has", list, []impl.ImageOp{diskTrim(4, 1)}, ok, impl.Image{Name: "some", Back: "base", Table: []int64{1, -1, 0, -2, -1, 0}, Data: []string{a, b, c, d}, Snaps: old(-2, 3, -1, 2, -1, -2)})
	checkDiskRun(t, "all", list, []impl.ImageOp{diskZero(0, 6)}, ok, impl.Image{Name: "some", Back: "base", Table: []int64{-2, -2, -2, -2, -2, -2}, Data: []string{c, d}, Snaps: old(-2, 1, -1, 0, -1, -2)})
	checkDiskRun(t, "and the Snap", list, []impl.ImageOp{diskTrim(0, 6), diskDrop("old")}, []int64{0, 0}, impl.Image{Name: "some", Back: "base", Table: []int64{-1, -1, -1, -1, -1, -1}})
	checkDiskRun(t, "the Snap alone", list, []impl.ImageOp{diskDrop("old")}, ok, impl.Image{Name: "some", Back: "base", Table: []int64{1, -1, 0, -2, 2, 0}, Data: []string{a, b, c}})
	checkDiskRun(t, "a revert", list, []impl.ImageOp{diskRevert("old")}, ok, impl.Image{Name: "some", Back: "base", Table: []int64{-2, 1, -1, 0, -1, -2}, Data: []string{c, d}, Snaps: old(-2, 1, -1, 0, -1, -2)})
	checkDiskRun(t, "a write behind one that went", list, []impl.ImageOp{diskZero(0, 1), diskWrite(0, a)}, []int64{0, 0}, impl.Image{Name: "some", Back: "base", Table: []int64{3, -1, 0, -2, 1, 0}, Data: []string{a, c, d, a}, Snaps: old(-2, 2, -1, 1, -1, -2)})
}

func TestImSnap(t *testing.T) {
	list := someImages()
	checkDiskRun(t, "a second one", list, []impl.ImageOp{diskSnap("an-0ther-one-is-here2")}, []int64{impl.ErrForm}, list[0])
	checkDiskRun(t, "a second one of 20 signs", list, []impl.ImageOp{diskSnap("an-0ther-one-is-here")}, []int64{0}, changedImage(list[0], func(m *impl.Image) {
		m.Snaps = append(m.Snaps, impl.Snap{Name: "an-0ther-one-is-here", Table: slices.Clone(m.Table)})
	}))
	for name, right := range namesOf() {
		what := fmt.Sprintf("a name of %d signs, %q", len(name), name[:min(len(name), 30)])
		if !right {
			checkDiskRefused(t, what, list, diskSnap(name), impl.ErrForm)
			continue
		}
		checkDiskRun(t, what, list, []impl.ImageOp{diskSnap(name), diskSnap(name)}, []int64{0, impl.ErrConflict}, changedImage(list[0], func(m *impl.Image) {
			m.Snaps = append(m.Snaps, impl.Snap{Name: name, Table: slices.Clone(m.Table)})
		}))
	}
	checkDiskRefused(t, "one that is there", list, diskSnap("old"), impl.ErrConflict)
	full := changedImage(list[0], func(m *impl.Image) {
		for n := range 7 {
			m.Snaps = append(m.Snaps, impl.Snap{Name: fmt.Sprintf("s%d", n), Table: slices.Repeat([]int64{-1}, 6)})
		}
	})
	fullList := imagesOf(full, baseImage())
	checkDiskRefused(t, "a ninth one", fullList, diskSnap("s7"), impl.ErrCount)
	checkDiskRefused(t, "a ninth one of a name that is none", fullList, diskSnap("S7"), impl.ErrForm)
	checkDiskRefused(t, "a ninth one of a name that is there", fullList, diskSnap("s6"), impl.ErrConflict)
	one := changedImage(full, func(m *impl.Image) { m.Snaps = m.Snaps[:7] })
	checkDiskRun(t, "an eighth and a ninth", imagesOf(one, baseImage()), []impl.ImageOp{diskSnap("s7"), diskSnap("s8"), diskDrop("old"), diskSnap("s8")}, []int64{0, impl.ErrCount, 0, 0}, changedImage(one, func(m *impl.Image) {
		m.Snaps = append(m.Snaps[1:7], impl.Snap{Name: "s7", Table: slices.Clone(m.Table)}, impl.Snap{Name: "s8", Table: slices.Clone(m.Table)})
		m.Data = m.Data[:3]
	}))
}

// What is written behind a snap or a revert is in the one table alone.
func TestSnapsStayAsTheyWere(t *testing.T) {
	list := someImages()
	ops := []impl.ImageOp{diskSnap("now"), diskWrite(0, "*"), diskZero(2, 2), diskSnap("then"), diskRevert("now"), diskWrite(1, "!"), diskTrim(4, 2)}
	run := checkRunImage(t, "a snap", list, "some", ops)
	checkNumbers(t, "codes", run.Codes, make([]int64, 7))
	for name, want := range map[string]string{
		"old":  bytes0(16) + cellOf("d") + bytes0(16) + cellOf("c") + bytes0(32),
		"now":  wholeDisk(),
		"then": "*" + wholeDisk()[1:32] + bytes0(32) + wholeDisk()[64:],
	} {
		back := checkRunImage(t, name, putImage(list, run.Image), "some", []impl.ImageOp{diskRevert(name)})
		checkText(t, name, impl.DiskOf(putImage(list, back.Image), "some"), want)
	}
	checkText(t, "the disk", impl.DiskOf(putImage(list, run.Image), "some"), "b!"+wholeDisk()[2:64]+bytes0(32))
}

func TestImRevertAndImDrop(t *testing.T) {
	list := someImages()
	for _, name := range []string{"", "none", "ol", "old2", "OLD", "some", "base", "old\x00", strings.Repeat("x", impl.MaxBytes+1)} {
		checkDiskRefused(t, fmt.Sprintf("revert to %.20q", name), list, diskRevert(name), impl.ErrNone)
		checkDiskRefused(t, fmt.Sprintf("drop of %.20q", name), list, diskDrop(name), impl.ErrNone)
	}
	three := changedImage(list[0], func(m *impl.Image) {
		m.Snaps = append(m.Snaps, snapOf("b", 0, 0, 1, 1, 2, 2), snapOf("c", -1, -2, -1, -2, -1, -2))
	})
	for n, name := range []string{"old", "b", "c"} {
		dropped := checkRunImage(t, name, imagesOf(three, baseImage()), "some", []impl.ImageOp{diskDrop(name), diskDrop(name), diskRevert(name)})
		checkNumbers(t, name, dropped.Codes, []int64{impl.OK, impl.ErrNone, impl.ErrNone})
		var names []string
		for _, s := range dropped.Image.Snaps {
			names = append(names, s.Name)
		}
		checkAlike(t, name, names, slices.Delete([]string{"old", "b", "c"}, n, n+1))
		checkText(t, name, impl.DiskOf(imagesOf(dropped.Image, baseImage()), "some"), wholeDisk())
		back := checkRunImage(t, name, imagesOf(three, baseImage()), "some", []impl.ImageOp{diskRevert(name), diskRevert(name)})
		checkNumbers(t, name, back.Codes, []int64{0, 0})
		checkText(t, name, impl.DiskOf(imagesOf(back.Image, baseImage()), "some"), rowOf(three, three.Snaps[n].Table, impl.DiskOf(list, "base")))
		checkNumber(t, name, int64(len(back.Image.Snaps)), 3)
	}
	noise := impl.ImageOp{Kind: impl.ImRevert, At: -9, Size: -9, Text: "old"}
	checkNumbers(t, "At and Size count for nothing", impl.RunImage(list, "some", []impl.ImageOp{noise, {Kind: impl.ImDrop, At: -9, Size: math.MaxInt64, Text: "old"}}).Codes, []int64{0, 0})
}

// Ops on an image that stands behind another one change it alone; the one in front reads through it.
func TestOpsOnAnImageBehind(t *testing.T) {
	list := imagesOf(baseImage(), someImage())
	base := changedImage(baseImage(), func(m *impl.Image) {
		m.Data[1] = "0123456789AB--EF"
		m.Table[3], m.Data = 2, append(m.Data, bytes0(15)+"!")
	})
	checkDiskRun(t, "two writes", list, []impl.ImageOp{diskWrite(28, "--"), diskWrite(63, "!")}, []int64{0, 0}, base)
	checkText(t, "the one in front", impl.DiskOf(imagesOf(base, someImage()), "some"), cellOf("b")+"0123456789AB--EF"+wholeDisk()[32:])
}

func TestCodesOfAllOps(t *testing.T) {
	list := someImages()
	run := checkRunImage(t, "codes", list, "some", []impl.ImageOp{
		{}, diskWrite(0, ""), diskWrite(0, "*"), diskTrim(6, 1), diskTrim(1, 1), diskZero(0, 0), diskZero(1, 1),
		diskSnap("old"), diskSnap(""), diskSnap("new"), diskRevert("no"), diskRevert("new"), diskDrop("no"), diskDrop("new"), {Kind: 7},
	})
	checkNumbers(t, "codes", run.Codes, []int64{1, 2, 0, 2, 0, 2, 0, 9, 1, 0, 5, 0, 5, 0, 1})
	checkText(t, "the disk", impl.DiskOf(putImage(list, run.Image), "some"), "*"+wholeDisk()[1:16]+bytes0(16)+wholeDisk()[32:])
}

package tests

import (
	"fmt"
	"math/rand"
	"slices"
	"strings"
	"testing"

	"loop.example/g00038/impl"
)

// someMoreImages are right ones with and without Back, Data and Snaps.
func someMoreImages() map[string]impl.Image {
	return map[string]impl.Image{
		"the least":      {Name: "a", Table: []int64{-1}},
		"zeros":          {Name: "a", Table: []int64{-2, -2}},
		"a Back":         {Name: "a", Back: "b", Table: []int64{-1, -2}},
		"Data":           {Name: "a", Table: []int64{0, -1}, Data: []string{"0123456789abcdef"}},
		"a Snap":         {Name: "a", Table: []int64{-1}, Snaps: []impl.Snap{snapOf("s", -2)}},
		"all of it":      someImage(),
		"what is behind": baseImage(),
		"long names":     {Name: strings.Repeat("n", 20), Back: strings.Repeat("b", 20), Table: []int64{-1}, Snaps: []impl.Snap{snapOf(strings.Repeat("s", 20), -1)}},
		"bytes 0 to 15":  {Name: "a", Table: []int64{0}, Data: []string{"\x00\x01\x02\x03\x04\x05\x06\x07\x08\x09\x0a\x0b\x0c\x0d\x0e\x0f"}},
		"bytes 255":      {Name: "a", Table: []int64{0, 0}, Data: []string{cellOf("\xff")}, Snaps: []impl.Snap{snapOf("s", -1, 0), snapOf("t", 0, -2)}},
		"64 clusters":    fullImage(64),
		"128 texts":      fullImage(128),
		"the most":       mostImage(),
	}
}

// mostImage has as many of all as there may be, with the longest names.
func mostImage() impl.Image {
	m := fullImage(128)
	m.Name, m.Back = strings.Repeat("m", 20), strings.Repeat("z", 20)
	for len(m.Snaps) < 8 {
		m.Snaps = append(m.Snaps, impl.Snap{Table: slices.Clone(m.Table)})
	}
	for n := range m.Snaps {
		m.Snaps[n].Name = fmt.Sprintf("a-long-name-of-a-s%02d", n)
	}
	return m
}

func TestPackImage(t *testing.T) {
	least := "IMG1\x01\x00\x00\x00\x00\x00\x00\x00\x00\x00\x00\x00\x01a\x00\x01\x00\x00\x00"
	checkText(t, "the least", impl.PackImage(impl.Image{Name: "a", Table: []int64{-1}}), withSum(least))
	all := "IMG1\x02\x00\x00\x00\x01\x00\x00\x00\x01\x00\x00\x00" + "\x04some\x04base" + "\x02\x00\x00\x00\x00\x00\x00\x00" + "0123456789abcdef" + "\x03old" + "\x01\x00\x00\x00\x02\x00\x00\x00"
	m := impl.Image{Name: "some", Back: "base", Table: []int64{0, -2}, Data: []string{"0123456789abcdef"}, Snaps: []impl.Snap{snapOf("old", -1, 0)}}
	checkText(t, "all of it", impl.PackImage(m), withSum(all))
	for what, m := range someMoreImages() {
		was := imageText(m)
		packed := impl.PackImage(m)
		checkText(t, what, packed, withSum(plainPack(m)))
		checkUnpacked(t, what, checkUnpack(t, what, packed), impl.Unpacked{Image: m})
		checkText(t, what+": what was handed in", imageText(m), was)
	}
	checkNumber(t, "the most", int64(len(impl.PackImage(mostImage()))), 4+12+42+256+2048+8*(21+256)+4)
}

func TestPackImageWithAFault(t *testing.T) {
	for what, m := range wrongImages() {
		checkText(t, what, impl.PackImage(m), "")
	}
	for _, list := range [][]impl.Image{someImages(), rowImages(3)} {
		alone := list[0]
		checkUnpacked(t, "without what is behind", impl.UnpackImage(impl.PackImage(alone)), impl.Unpacked{Image: alone})
	}
	own := impl.Image{Name: "a", Back: "a", Table: []int64{-1}}
	checkUnpacked(t, "with itself behind", impl.UnpackImage(impl.PackImage(own)), impl.Unpacked{Image: own})
}

// wrongImages have texts that are read whole: none has more of anything than a text may tell.
func wrongImages() map[string]impl.Image {
	wrong := map[string]impl.Image{
		"nothing":    {},
		"no table":   {Name: "a"},
		"no name":    {Table: []int64{-1}},
		"all Snaps":  {Name: "a", Snaps: slices.Repeat([]impl.Snap{{Name: "s"}}, 8)},
		"all Data":   {Name: "a", Table: []int64{0}, Data: slices.Repeat([]string{cellOf("a")}, 128)},
		"all tables": {Name: "a", Table: make([]int64, 64)},
	}
	for what, change := range map[string]func(m *impl.Image){
		"a name of 21 signs":       func(m *impl.Image) { m.Name = strings.Repeat("a", 21) },
		"a name of 255 signs":      func(m *impl.Image) { m.Name = strings.Repeat("a", 255) },
		"a capital":                func(m *impl.Image) { m.Name = "A" },
		"a byte 0":                 func(m *impl.Image) { m.Name = "a\x00" },
		"a Back of 21 signs":       func(m *impl.Image) { m.Back = strings.Repeat("a", 21) },
		"a Back of 255 signs":      func(m *impl.Image) { m.Back = strings.Repeat("a", 255) },
		"a blank as Back":          func(m *impl.Image) { m.Back = " " },
		"a Snap without a name":    func(m *impl.Image) { m.Snaps[0].Name = "" },
		"a Snap's name of 21":      func(m *impl.Image) { m.Snaps[0].Name = strings.Repeat("a", 21) },
		"a Snap's name of 255":     func(m *impl.Image) { m.Snaps[0].Name = strings.Repeat("a", 255) },
		"two Snaps of one name":    func(m *impl.Image) { m.Snaps = append(m.Snaps, m.Snaps[0]) },
		"an entry behind Data":     func(m *impl.Image) { m.Table[1] = 4 },
		"an entry of -3":           func(m *impl.Image) { m.Table[1] = -3 },
		"the greatest entry":       func(m *impl.Image) { m.Table[1] = 1<<32 - 3 },
		"a great entry":            func(m *impl.Image) { m.Table[1] = 1 << 31 },
		"a Snap's entry behind":    func(m *impl.Image) { m.Snaps[0].Table[0] = 4 },
		"a Snap's greatest entry":  func(m *impl.Image) { m.Snaps[0].Table[5] = 1<<32 - 3 },
		"a text of no entry":       func(m *impl.Image) { m.Data = append(m.Data, cellOf("e")) },
		"a first text of no entry": func(m *impl.Image) { m.Table[2], m.Table[5] = -1, -1 },
	} {
		wrong[what] = changedImage(someImage(), change)
	}
	return wrong
}

func TestUnpackImageThatIsNoRightOne(t *testing.T) {
	for what, m := range wrongImages() {
		text := withSum(plainPack(m))
		checkUnpacked(t, what, checkUnpack(t, what, text), impl.Unpacked{Code: impl.ErrForm})
		sum := int64(len(text) - 4)
		checkUnpacked(t, what+", a wrong sum", checkUnpack(t, what, text[:sum]+"\xff\xff\xff\xff"), impl.Unpacked{Code: impl.ErrSum, At: sum})
		checkUnpacked(t, what+", a byte behind", checkUnpack(t, what, text+"\x00"), impl.Unpacked{Code: impl.ErrSyntax, At: sum + 4})
		checkUnpacked(t, what+", a byte short", checkUnpack(t, what, text[:sum+3]), impl.Unpacked{Code: impl.ErrSyntax, At: sum + 3})
	}
}

func TestUnpackImageThatEndsEarly(t *testing.T) {
	for what, m := range someMoreImages() {
		packed := impl.PackImage(m)
		for cut := range len(packed) {
			want := impl.Unpacked{Code: impl.ErrSyntax, At: int64(cut)}
			if cut < 4 {
				want.At = 0
			}
			checkUnpacked(t, fmt.Sprintf("%s: %d bytes", what, cut), impl.UnpackImage(packed[:cut]), want)
		}
	}
}

func TestUnpackImageThatDoesNotBeginSo(t *testing.T) {
	packed := impl.PackImage(someImage())
	begins := []string{"", "I", "IM", "IMG", "x", "XMG1", "IMg1", "IMG2", "IMG0", "img1", "IM1G", " IMG1", "\x00IMG1", "GMI1", "IMGI", "\x00\x00\x00\x00"}
	for _, begin := range begins {
		for _, behind := range []string{"", packed[4:], packed, cellOf("\xff")} {
			text := begin + behind
			if strings.HasPrefix(text, "IMG1") {
				continue
			}
			checkUnpacked(t, fmt.Sprintf("%.30q", text), checkUnpack(t, "begin", text), impl.Unpacked{Code: impl.ErrSyntax})
			checkUnpacked(t, fmt.Sprintf("%.30q with its sum", text), checkUnpack(t, "begin", withSum(text[:max(len(text)-4, 0)]+"12")), impl.Unpacked{Code: impl.ErrSyntax})
		}
	}
}

func TestUnpackImageOfGreatNumbers(t *testing.T) {
	most := []uint32{64, 128, 8}
	for n := range 3 {
		for _, number := range []uint32{most[n] + 1, most[n] + 2, 256, 1 << 16, 1 << 24, 1<<31 - 1, 1 << 31, 1<<32 - 1} {
			text := "IMG1"
			for ahead := range n {
				text += wordText(most[ahead])
			}
			text += wordText(number)
			want := impl.Unpacked{Code: impl.ErrSyntax, At: int64(4 + 4*n)}
			for _, behind := range []string{"", "\xff", wordText(1 << 30), bytes0(50000), strings.Repeat("\xff", 9000)} {
				what := fmt.Sprintf("number %d is %d, %d bytes behind it", n, number, len(behind))
				checkUnpacked(t, what, checkUnpack(t, what, text+behind), want)
				checkUnpacked(t, what+" and a sum", checkUnpack(t, what, withSum(text+behind)), want)
			}
			for cut := 1; cut <= 4; cut++ {
				short := text[:len(text)-cut]
				checkUnpacked(t, "cut off within it", checkUnpack(t, "cut", short), impl.Unpacked{Code: impl.ErrSyntax, At: int64(len(short))})
			}
		}
		text := "IMG1"
		for ahead := range n + 1 {
			text += wordText(most[ahead])
		}
		checkUnpacked(t, "just as great as may be", checkUnpack(t, "most", text), impl.Unpacked{Code: impl.ErrSyntax, At: int64(len(text))})
	}
	checkUnpacked(t, "the most", checkUnpack(t, "the most", impl.PackImage(mostImage())), impl.Unpacked{Image: mostImage()})
	packed := impl.PackImage(mostImage())
	for at, number := range map[int]uint32{4: 65, 8: 129, 12: 9} {
		text := packed[:at] + wordText(number) + packed[at+4:]
		checkUnpacked(t, "one more", checkUnpack(t, "one more", text), impl.Unpacked{Code: impl.ErrSyntax, At: int64(at)})
	}
}

func TestUnpackImageWithSomethingBehind(t *testing.T) {
	for what, m := range someMoreImages() {
		packed := impl.PackImage(m)
		end := int64(len(packed))
		wrong := packed[:end-4] + wordText(uint32(mixOf(packed[:end-4], 7))+1)
		for _, behind := range []string{"\x00", "x", "IMG1", packed, strings.Repeat("x", 20000), strings.Repeat("\x00", 65536-len(packed))} {
			want := impl.Unpacked{Code: impl.ErrSyntax, At: end}
			checkUnpacked(t, what+", a right sum", checkUnpack(t, what, packed+behind), want)
			checkUnpacked(t, what+", a wrong sum", checkUnpack(t, what, wrong+behind), want)
			all := withSum(packed + behind)
			if len(all) <= impl.MaxBytes {
				checkUnpacked(t, what+", a sum of all", checkUnpack(t, what, all), want)
			}
		}
		checkUnpacked(t, what+", too long", checkUnpack(t, what, packed+strings.Repeat("x", 65537-len(packed))), impl.Unpacked{Code: impl.ErrSize})
	}
	for size, code := range map[int]int64{65536: impl.ErrSyntax, 65537: impl.ErrSize, 100000: impl.ErrSize} {
		checkUnpacked(t, "a long text", checkUnpack(t, "a long text", strings.Repeat("x", size)), impl.Unpacked{Code: code})
	}
}

func TestUnpackImageWithAnotherSum(t *testing.T) {
	for what, m := range someMoreImages() {
		packed := impl.PackImage(m)
		at := len(packed) - 4
		sum := uint32(mixOf(packed[:at], 7))
		others := []uint32{sum + 1, sum - 1, 0, 1<<32 - 1, sum ^ 1<<31, sum ^ 1<<8, sum + impl.MixPrime, uint32(mixOf(packed[:at], 6)), uint32(mixOf(packed[:at], 8)), uint32(mixOf(packed[:at], 0))}
		for _, other := range others {
			checkUnpacked(t, fmt.Sprintf("%s: %d", what, other), checkUnpack(t, what, packed[:at]+wordText(other)), impl.Unpacked{Code: impl.ErrSum, At: int64(at)})
		}
	}
}

// Names and tables are read as they stand, whatever their bytes are.
func TestUnpackImageOfWhateverText(t *testing.T) {
	rng := rand.New(rand.NewSource(1303))
	codes := map[int64]int{}
	for range 20000 {
		m := randomImage(rng, "a", []string{"", "b"}[rng.Intn(2)], 1+rng.Intn(3), rng.Intn(3), 50)
		bytes := []byte(plainPack(m))
		for range rng.Intn(3) {
			at := 4 + rng.Intn(len(bytes)-4)
			bytes[at] = byte(oneOf(rng, 0, 1, 2, 3, 4, 20, 21, int64(rng.Intn(256))))
		}
		if rng.Intn(4) == 0 {
			bytes = bytes[:4+rng.Intn(len(bytes)-4)]
		}
		text := withSum(string(bytes))
		if rng.Intn(8) == 0 {
			text += string(bytes[:rng.Intn(len(bytes))])
		}
		got := checkUnpack(t, fmt.Sprintf("%q", text), text)
		if got.Code == impl.OK {
			checkNumber(t, fmt.Sprintf("%q: ImageFault", text), impl.ImageFault(got.Image), impl.OK)
			checkText(t, "packed again", impl.PackImage(got.Image), text)
		}
		codes[got.Code]++
		if t.Failed() {
			return
		}
	}
	for _, code := range []int64{impl.OK, impl.ErrSyntax, impl.ErrForm} {
		if codes[code] < 1000 {
			t.Errorf("code %d came %d times", code, codes[code])
		}
	}
}

func TestP25UnpackedAsItWasPacked(t *testing.T) {
	rng := rand.New(rand.NewSource(1325))
	for n := range 3000 {
		m := randomImage(rng, "an-image", []string{"", "a-back"}[rng.Intn(2)], int(oneOf(rng, 1, 2, 7, 63, 64)), rng.Intn(9), int(oneOf(rng, 0, 20, 100)))
		packed := impl.PackImage(m)
		what := fmt.Sprintf("image %d", n)
		checkText(t, what, packed, withSum(plainPack(m)))
		got := impl.UnpackImage(packed)
		checkUnpacked(t, what, got, impl.Unpacked{Image: m})
		spoilLists(got.Image)
		checkUnpacked(t, what+" again", impl.UnpackImage(packed), impl.Unpacked{Image: m})
		if t.Failed() {
			return
		}
	}
}

// Every byte of some texts as every other one, and bytes of many texts as some other one.
func TestP25OneByteAnother(t *testing.T) {
	for what, m := range someMoreImages() {
		packed := impl.PackImage(m)
		if len(packed) > 250 {
			continue
		}
		for at := range len(packed) {
			for other := range 256 {
				checkOtherByte(t, what, packed, at, byte(other))
			}
		}
	}
	rng := rand.New(rand.NewSource(1326))
	for n := range 400 {
		m := randomImage(rng, "an-image", "a-back", int(oneOf(rng, 1, 3, 64)), rng.Intn(9), 50)
		packed := impl.PackImage(m)
		for range 30 {
			checkOtherByte(t, fmt.Sprintf("image %d", n), packed, rng.Intn(len(packed)), byte(rng.Intn(256)))
		}
	}
}

func checkOtherByte(t *testing.T, what string, packed string, at int, other byte) {
	t.Helper()
	if packed[at] == other {
		return
	}
	text := packed[:at] + string([]byte{other}) + packed[at+1:]
	got := impl.UnpackImage(text)
	if got.Code == impl.OK {
		t.Errorf("%s: byte %d is %d: no code", what, at, other)
	}
	checkUnpacked(t, fmt.Sprintf("%s: byte %d is %d", what, at, other), got, plainUnpack(text))
}

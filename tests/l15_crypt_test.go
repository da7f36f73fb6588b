package tests

import (
	"fmt"
	"math"
	"math/rand"
	"slices"
	"strings"
	"testing"

	"loop.example/g00038/impl"
)

func TestConstantsOfSealedState(t *testing.T) {
	checkNumbers(t, "quotes", []int64{impl.SealPrime, impl.SealOrder, impl.SealBase}, []int64{2147482763, 1073741381, 4})
	checkNumbers(t, "limits", []int64{impl.MaxRegs, impl.MaxSeal, impl.MaxPasses}, []int64{8, 4096, 4})
}

// someTweaks lie beside the ends of a word, and at those of a number.
func someTweaks() []int64 {
	return []int64{0, 1, 7, 255, 256, 1<<32 - 1, 1 << 32, 1<<32 + 1, -1, -7, -1 << 32, math.MinInt64, math.MaxInt64}
}

// The wanted bytes come from another program, which was written from the document's words.
func TestCryptKnown(t *testing.T) {
	for _, c := range []struct {
		key   string
		tweak int64
		data  string
		want  string
	}{
		{"key", 0, "some text", "\x25\xc8\x8a\xe1\x75\x4d\xa0\x7b\xff"},
		{"key", 0, "some tex", "\x25\xc8\x8a\xe1\x75\x4d\xa0\x7b"},
		{"key", 1 << 32, "some text", "\x25\xc8\x8a\xe1\x75\x4d\xa0\x7b\xff"},
		{"key", 5, "some text", "\xff\x73\x51\xdf\xea\xf9\x9e\x00\xab"},
		{"", -1, bytes0(7), "\x85\x4a\xed\xb3\xf8\x3e\xf4"},
		{"\xff", math.MinInt64, bytes0(4), "\xef\x88\x4f\x30"},
		{"\xff", math.MaxInt64, bytes0(4), "\x26\x8d\xe1\x67"},
		{"key", 5, "", ""},
		{"", 0, "", ""},
	} {
		checkText(t, fmt.Sprintf("Crypt(%q, %d, %q)", c.key, c.tweak, c.data), impl.Crypt(c.key, c.tweak, c.data), c.want)
	}
}

func TestCrypt(t *testing.T) {
	rng := rand.New(rand.NewSource(1501))
	text := randomBytes(rng, 800)
	for _, key := range []string{"", "k", "\x00", "a key of many bytes", randomBytes(rng, 4095), randomBytes(rng, impl.MaxSeal)} {
		for _, tweak := range someTweaks() {
			for _, size := range []int{0, 1, 2, 3, 4, 5, 6, 7, 8, 9, 16, 768, 769, 770, 771} {
				what := fmt.Sprintf("key of %d, tweak %d, %d bytes", len(key), tweak, size)
				checkText(t, what, impl.Crypt(key, tweak, text[:size]), plainCrypt(key, tweak, text[:size]))
			}
		}
	}
}

// A tweak is no more than the word that it is.
func TestCryptByTweaks(t *testing.T) {
	for _, tweak := range someTweaks() {
		whole := impl.Crypt("key", tweak, "some text")
		checkText(t, "its word", impl.Crypt("key", wordOf(tweak), "some text"), whole)
		if impl.Crypt("key", tweak+1, "some text") == whole || impl.Crypt("kez", tweak, "some text") == whole {
			t.Errorf("tweak %d: another one, or another key, crypts alike", tweak)
		}
	}
}

func TestCryptAtItsBounds(t *testing.T) {
	rng := rand.New(rand.NewSource(1502))
	key, data := randomBytes(rng, impl.MaxSeal), randomBytes(rng, impl.MaxBytes)
	checkText(t, "the longest key and data", impl.Crypt(key, -9, data), plainCrypt(key, -9, data))
	for size := impl.MaxBytes - 4; size <= impl.MaxBytes; size++ {
		checkText(t, fmt.Sprintf("%d bytes", size), impl.Crypt("k", 1, data[:size]), plainCrypt("k", 1, data[:size]))
	}
	checkText(t, "a key that is too long", impl.Crypt(key+"k", 1, "some text"), "")
	checkText(t, "data that is too long", impl.Crypt("k", 1, data+"d"), "")
	checkText(t, "both", impl.Crypt(key+"k", 1, data+"d"), "")
	checkText(t, "a very long key", impl.Crypt(data+data, 1, "some text"), "")
}

func TestTagOfKnown(t *testing.T) {
	for _, c := range []struct{ key, data, want string }{
		{"", "", "\x07\x99\x0d\x00\x3e\x37\x0e\x00"},
		{"k", "", "\x48\x57\x55\x1c\xe4\x46\xb3\x3a"},
		{"", "k", "\x48\x57\x55\x1c\xe4\x46\xb3\x3a"},
		{"key", "data", "\xc4\x4e\xe3\x6c\xaa\x59\x48\x29"},
		{"keyd", "ata", "\xc4\x4e\xe3\x6c\xa1\x86\x1a\x06"},
	} {
		checkText(t, fmt.Sprintf("TagOf(%q, %q)", c.key, c.data), impl.TagOf(c.key, c.data), c.want)
	}
}

func TestTagOf(t *testing.T) {
	rng := rand.New(rand.NewSource(1503))
	long := randomBytes(rng, impl.MaxSeal+1)
	sizes := []int{0, 1, 2, 3, 4, 5, 6, 7, 100, 101, impl.MaxSeal - 1, impl.MaxSeal, impl.MaxSeal + 1}
	for _, keySize := range sizes {
		for _, dataSize := range sizes {
			key, data := long[:keySize], long[len(long)-dataSize:]
			want := ""
			if keySize <= impl.MaxSeal && dataSize <= impl.MaxSeal {
				want = plainTag(key, data)
				checkNumber(t, "a tag's bytes", int64(len(want)), 8)
			}
			checkText(t, fmt.Sprintf("key of %d, %d bytes", keySize, dataSize), impl.TagOf(key, data), want)
		}
	}
	checkText(t, "very long data", impl.TagOf("k", strings.Repeat("d", impl.MaxBytes+1)), "")
	checkText(t, "a very long key", impl.TagOf(strings.Repeat("k", impl.MaxBytes+1), "d"), "")
}

// checkMeasure also holds that what is handed in stays, and that the answer is apart from it.
func checkMeasure(t *testing.T, what string, regs []int64, stages []impl.Stage) []int64 {
	t.Helper()
	regsWere, stagesWere := slices.Clone(regs), slices.Clone(stages)
	got := impl.Measure(regs, stages)
	want := plainMeasure(regs, stages)
	checkNumbers(t, what, got, want)
	for n := range got {
		got[n] = -77
	}
	checkNumbers(t, what+": the registers handed in", regs, regsWere)
	if !slices.Equal(stages, stagesWere) {
		t.Errorf("%s: the stages handed in changed", what)
	}
	return want
}

func TestMeasureKnown(t *testing.T) {
	stages := []impl.Stage{{Reg: 0, Text: "boot"}, {Reg: 1}, {Reg: 0, Text: "more"}}
	checkNumbers(t, "three stages", impl.Measure([]int64{0, 0}, stages), []int64{939856028, 1923150163})
	checkNumbers(t, "an empty text", impl.Measure([]int64{1<<32 - 1}, []impl.Stage{{}}), []int64{417905568})
}

func TestMeasure(t *testing.T) {
	rng := rand.New(rand.NewSource(1504))
	for n := range 2000 {
		regs := randomRegisters(rng)
		stages := make([]impl.Stage, rng.Intn(7))
		for at := range stages {
			stages[at] = impl.Stage{Reg: rng.Int63n(int64(len(regs))), Text: randomBytes(rng, rng.Intn(12))}
		}
		what := fmt.Sprintf("registers %d", n)
		whole := checkMeasure(t, what, regs, stages)
		checkNumber(t, what+": how many", int64(len(whole)), int64(len(regs)))
		cut := rng.Intn(len(stages) + 1)
		checkNumbers(t, what+" in parts", impl.Measure(impl.Measure(regs, stages[:cut]), stages[cut:]), whole)
	}
}

func TestMeasureOfRegisters(t *testing.T) {
	all := []int64{0, 1, 1<<32 - 1, 3, 4, 5, 6, 7}
	for count := 1; count <= 8; count++ {
		checkNumbers(t, "no stage", checkMeasure(t, "no stage", all[:count], nil), all[:count])
		checkMeasure(t, "the last one", all[:count], []impl.Stage{{Reg: int64(count) - 1, Text: "a"}})
	}
	wrong := wrongRegisters()
	wrong["1001 registers"] = make([]int64, 1001)
	for what, regs := range wrong {
		for _, stages := range [][]impl.Stage{nil, {{Text: "a"}}, make([]impl.Stage, 1001)} {
			checkNumbers(t, what, checkMeasure(t, what, regs, stages), nil)
		}
	}
}

func TestMeasureOfStages(t *testing.T) {
	most := slices.Repeat([]impl.Stage{{Reg: 1, Text: "a"}, {Text: "b"}}, impl.MaxList/2)
	if len(checkMeasure(t, "MaxList stages", []int64{5, 6}, most)) != 2 {
		t.Errorf("MaxList stages are refused")
	}
	checkNumbers(t, "one stage more", checkMeasure(t, "one stage more", []int64{5, 6}, append(most, impl.Stage{})), nil)
	long := strings.Repeat("t", impl.MaxSeal+1)
	if len(checkMeasure(t, "the longest text", []int64{5, 6}, []impl.Stage{{Text: long[1:]}})) != 2 {
		t.Errorf("a text of MaxSeal bytes is refused")
	}
	wrong := []impl.Stage{{Text: long}, {Text: strings.Repeat("t", impl.MaxBytes+1)}}
	for _, reg := range []int64{-1, 2, 3, 8, 256, 1 << 32, math.MinInt64, math.MaxInt64} {
		wrong = append(wrong, impl.Stage{Reg: reg, Text: "a"})
	}
	for _, stage := range wrong {
		what := fmt.Sprintf("Reg %d, a text of %d bytes", stage.Reg, len(stage.Text))
		fine := impl.Stage{Reg: 1, Text: "a"}
		for _, stages := range [][]impl.Stage{{stage}, {fine, stage}, {stage, fine}, {fine, stage, fine}} {
			checkNumbers(t, what, checkMeasure(t, what, []int64{5, 6}, stages), nil)
		}
	}
}

func TestCryptDiskKnown(t *testing.T) {
	want := "\x2e\x8a\x66\xdc\x38\x38\x9f\x66\x8a\x4d\x97\x5d\x0c\xc5\x2f\x3a\x7d\x0b\x90\xc2\xb5\x61\xec\xe7\x37\xad\x11\x85\x5f\x40\x5b\x1c"
	checkText(t, "two clusters", impl.CryptDisk("0123456789abcdef", cellOf("A")+cellOf("B")), want)
}

func TestCryptDisk(t *testing.T) {
	rng := rand.New(rand.NewSource(1505))
	disk := randomBytes(rng, impl.MaxBytes)
	for _, master := range []string{"", "k", "0123456789abcdef", randomBytes(rng, impl.MaxSeal)} {
		for _, clusters := range []int{0, 1, 2, 3, 64, 65, 300} {
			part := disk[:16*clusters]
			checkText(t, fmt.Sprintf("key of %d, %d clusters", len(master), clusters), impl.CryptDisk(master, part), plainCryptDisk(master, part))
		}
		for _, size := range []int{1, 15, 17, 31, 33, 1025, impl.MaxBytes - 1, impl.MaxBytes - 15} {
			checkText(t, fmt.Sprintf("%d bytes", size), impl.CryptDisk(master, disk[:size]), "")
		}
		checkText(t, "one byte too many", impl.CryptDisk(master, disk+"d"), "")
		checkText(t, "one cluster too many", impl.CryptDisk(master, disk+disk[:16]), "")
	}
	checkText(t, "the greatest disk", impl.CryptDisk("0123456789abcdef", disk), plainCryptDisk("0123456789abcdef", disk))
	checkNumber(t, "the greatest disk by the longest key", int64(len(impl.CryptDisk(disk[:impl.MaxSeal], disk))), impl.MaxBytes)
	for _, size := range []int{0, 16, impl.MaxBytes} {
		checkText(t, "a key that is too long", impl.CryptDisk(disk[:impl.MaxSeal+1], disk[:size]), "")
	}
}

func TestP27CryptTwiceIsAsItWas(t *testing.T) {
	rng := rand.New(rand.NewSource(1527))
	for n := range 3000 {
		key, tweak, data := randomBytes(rng, rng.Intn(40)), oneOf(rng, someTweaks()...)+rng.Int63n(3), randomBytes(rng, rng.Intn(60))
		once := impl.Crypt(key, tweak, data)
		checkNumber(t, "its bytes", int64(len(once)), int64(len(data)))
		checkText(t, fmt.Sprintf("text %d twice", n), impl.Crypt(key, tweak, once), data)
		for cut := range len(data) + 1 {
			checkText(t, fmt.Sprintf("text %d cut at %d", n, cut), impl.Crypt(key, tweak, data[:cut]), once[:cut])
		}
	}
	long := randomBytes(rng, impl.MaxBytes)
	key := long[:impl.MaxSeal]
	once := impl.Crypt(key, -1, long)
	checkText(t, "the longest text twice", impl.Crypt(key, -1, once), long)
	for _, cut := range []int{1, 2, 3, 4096, impl.MaxBytes - 2, impl.MaxBytes - 1} {
		checkText(t, fmt.Sprintf("the longest text cut at %d", cut), impl.Crypt(key, -1, long[:cut]), once[:cut])
	}
}

func TestP27CryptDiskTwiceIsAsItWas(t *testing.T) {
	rng := rand.New(rand.NewSource(1528))
	for n := range 300 {
		master, clusters := randomBytes(rng, rng.Intn(40)), rng.Intn(70)
		disk := randomBytes(rng, 16*clusters)
		once := impl.CryptDisk(master, disk)
		checkText(t, fmt.Sprintf("disk %d twice", n), impl.CryptDisk(master, once), disk)
		for cut := range clusters + 1 {
			checkText(t, fmt.Sprintf("disk %d cut at %d", n, cut), impl.CryptDisk(master, disk[:16*cut]), once[:16*cut])
		}
	}
	disk := randomBytes(rng, impl.MaxBytes)
	checkText(t, "the greatest disk twice", impl.CryptDisk("key", impl.CryptDisk("key", disk)), disk)
}

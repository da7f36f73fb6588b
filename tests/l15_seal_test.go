package tests

import (
	"fmt"
	"math"
	"math/rand"
	"slices"
	"strings"
	"testing"

	"loop.example/g00038/impl"
)

func checkSeal(t *testing.T, what string, root string, regs []int64, mask int64, data string) impl.Sealed {
	t.Helper()
	were := slices.Clone(regs)
	got := impl.Seal(root, regs, mask, data)
	checkEqual(t, what+": Seal", got, plainSeal(root, regs, mask, data))
	checkNumbers(t, what+": the registers handed in", regs, were)
	return got
}

func checkUnseal(t *testing.T, what string, root string, regs []int64, s impl.Sealed) impl.Opened {
	t.Helper()
	were := slices.Clone(regs)
	got := impl.Unseal(root, regs, s)
	checkEqual(t, what+": Unseal", got, plainUnseal(root, regs, s))
	checkNumbers(t, what+": the registers handed in", regs, were)
	return got
}

// checkSealCode holds both calls to a code, of what is refused by both likewise.
func checkSealCode(t *testing.T, what string, root string, regs []int64, mask int64, data string, code int64) {
	t.Helper()
	checkEqual(t, what+": Seal", checkSeal(t, what, root, regs, mask, data), impl.Sealed{Code: code})
	sealed := impl.Sealed{Mask: mask, Data: data, Tag: "12345678"}
	checkEqual(t, what+": Unseal", checkUnseal(t, what, root, regs, sealed), impl.Opened{Code: code})
}

// The wanted bytes come from another program, which was written from the document's words.
func TestSealKnown(t *testing.T) {
	regs := []int64{5, 6, 7}
	two := impl.Sealed{Mask: 5, Data: "\x53\x41\x93\x16\x6c\x40\xc4\xc9", Tag: "\xaa\xad\xb8\x12\xc0\x42\xda\x4e"}
	none := impl.Sealed{Data: "\x81\x4d\x0b\x44\x7f\xb8\x2a\xbe", Tag: "\xed\xfa\x86\x3e\x09\x8c\x35\x44"}
	checkEqual(t, "two registers", impl.Seal("root", regs, 5, "a secret"), two)
	checkEqual(t, "no register", impl.Seal("root", regs, 0, "a secret"), none)
	checkEqual(t, "nothing", impl.Seal("", []int64{0}, 0, ""), impl.Sealed{Tag: "\x07\x99\x0d\x00\x3e\x37\x0e\x00"})
	checkEqual(t, "two registers", impl.Unseal("root", regs, two), impl.Opened{Data: "a secret"})
	checkEqual(t, "no register", impl.Unseal("root", regs, none), impl.Opened{Data: "a secret"})
}

func TestSealAtItsBounds(t *testing.T) {
	rng := rand.New(rand.NewSource(1506))
	root, data := randomBytes(rng, impl.MaxSeal-64), randomBytes(rng, impl.MaxSeal)
	regs := []int64{0, 1<<32 - 1, 2, 3, 4, 5, 6, 7}
	for count := 1; count <= 8; count++ {
		for _, mask := range []int64{0, 1, 1 << (count - 1), 1<<count - 1} {
			what := fmt.Sprintf("%d registers, mask %d", count, mask)
			s := checkSeal(t, what, root, regs[:count], mask, data)
			checkEqual(t, what, checkUnseal(t, what, root, regs[:count], s), impl.Opened{Data: data})
			s = checkSeal(t, what, "", regs[:count], mask, "")
			checkEqual(t, what, checkUnseal(t, what, "", regs[:count], s), impl.Opened{})
		}
	}
}

func TestSealThatIsTooLong(t *testing.T) {
	long := strings.Repeat("x", impl.MaxBytes+1)
	for _, size := range []int{impl.MaxSeal - 63, impl.MaxSeal, impl.MaxSeal + 1, impl.MaxBytes + 1} {
		checkSealCode(t, fmt.Sprintf("root of %d bytes", size), long[:size], []int64{5, 6}, 1, "data", impl.ErrSize)
		checkSealCode(t, fmt.Sprintf("root of %d bytes, no register", size), long[:size], []int64{5, 6}, 0, "data", impl.ErrSize)
	}
	for _, size := range []int{impl.MaxSeal + 1, impl.MaxBytes, impl.MaxBytes + 1} {
		checkSealCode(t, fmt.Sprintf("data of %d bytes", size), "root", []int64{5, 6}, 1, long[:size], impl.ErrSize)
	}
	many := make([]int64, impl.MaxList+1)
	checkSealCode(t, "too many registers", "root", many, 1, "data", impl.ErrSize)
	checkSealCode(t, "too many registers that are none", "root", slices.Repeat([]int64{-1}, impl.MaxList+1), -1, "data", impl.ErrSize)
	// What is too long is told ahead of all else.
	for what, regs := range wrongRegisters() {
		checkSealCode(t, what+", too long a root", long[:4033], regs, 1, "data", impl.ErrSize)
		checkSealCode(t, what+", too long data", "root", regs, 1, long[:4097], impl.ErrSize)
	}
	checkSealCode(t, "too long a root and no mask", long[:4033], []int64{5}, 2, "data", impl.ErrSize)
	checkSealCode(t, "too long data and no mask", "root", []int64{5}, -1, long[:4097], impl.ErrSize)
	checkEqual(t, "too long data and a Code", impl.Unseal("root", []int64{5}, impl.Sealed{Code: impl.ErrForm, Data: long[:4097]}), impl.Opened{Code: impl.ErrSize})
	checkEqual(t, "too long a root and a Code", impl.Unseal(long[:4033], []int64{5}, impl.Sealed{Code: impl.ErrForm}), impl.Opened{Code: impl.ErrSize})
	checkEqual(t, "too long data and no Tag", impl.Unseal("root", []int64{5}, impl.Sealed{Data: long[:4097]}), impl.Opened{Code: impl.ErrSize})
}

func TestSealThatIsNotSo(t *testing.T) {
	for what, regs := range wrongRegisters() {
		for _, mask := range []int64{0, 1, -1} {
			checkSealCode(t, what, "root", regs, mask, "data", impl.ErrForm)
		}
	}
	for count := 1; count <= 8; count++ {
		regs := make([]int64, count)
		for _, mask := range []int64{-1, -2, 1 << count, 1<<count + 1, 1 << 31, 1 << 32, 1<<32 + 1, 1 << 62, math.MaxInt64, math.MinInt64} {
			checkSealCode(t, fmt.Sprintf("%d registers, mask %d", count, mask), "root", regs, mask, "data", impl.ErrForm)
		}
	}
}

func TestUnsealOfWhatWasChanged(t *testing.T) {
	regs := []int64{5, 6, 7}
	s := impl.Seal("root", regs, 5, "a secret")
	checkOther := func(what string, code int64, change func(s *impl.Sealed)) {
		t.Helper()
		other := s
		change(&other)
		checkEqual(t, what, checkUnseal(t, what, "root", regs, other), impl.Opened{Code: code})
	}
	for _, code := range []int64{1, 2, 7, 10, -1, 1 << 32, math.MinInt64, math.MaxInt64} {
		checkOther(fmt.Sprintf("Code %d", code), impl.ErrForm, func(s *impl.Sealed) { s.Code = code })
		checkOther(fmt.Sprintf("Code %d and another Tag", code), impl.ErrForm, func(s *impl.Sealed) { s.Code, s.Tag = code, "" })
	}
	checkOther("no mask and another Tag", impl.ErrForm, func(s *impl.Sealed) { s.Mask, s.Tag = 8, "" })
	for mask := range int64(8) {
		if mask != 5 {
			checkOther(fmt.Sprintf("mask %d", mask), impl.ErrRight, func(s *impl.Sealed) { s.Mask = mask })
		}
	}
	for bit := range 64 {
		checkOther("another Tag", impl.ErrRight, func(s *impl.Sealed) { s.Tag = otherText(s.Tag, bit/8, 1<<(bit%8)) })
		checkOther("other Data", impl.ErrRight, func(s *impl.Sealed) { s.Data = otherText(s.Data, bit/8, 1<<(bit%8)) })
	}
	for _, tag := range []string{"", s.Tag[:7], s.Tag + "\x00", s.Tag + s.Tag, strings.Repeat("t", impl.MaxBytes+1)} {
		checkOther(fmt.Sprintf("a Tag of %d bytes", len(tag)), impl.ErrRight, func(s *impl.Sealed) { s.Tag = tag })
	}
	checkOther("shorter Data", impl.ErrRight, func(s *impl.Sealed) { s.Data = s.Data[:7] })
	checkOther("longer Data", impl.ErrRight, func(s *impl.Sealed) { s.Data += "\x00" })
	checkOther("no Data", impl.ErrRight, func(s *impl.Sealed) { s.Data = "" })
	checkOther("nothing", impl.ErrRight, func(s *impl.Sealed) { *s = impl.Sealed{} })
	checkEqual(t, "another root", checkUnseal(t, "another root", "Root", regs, s), impl.Opened{Code: impl.ErrRight})
	checkEqual(t, "no root", checkUnseal(t, "no root", "", regs, s), impl.Opened{Code: impl.ErrRight})
	checkEqual(t, "what was refused", impl.Unseal("root", regs, impl.Seal("root", regs, 8, "a secret")), impl.Opened{Code: impl.ErrForm})
}

func TestUnsealUnderOtherRegisters(t *testing.T) {
	s := impl.Seal("root", []int64{5, 6, 7}, 5, "a secret")
	for what, c := range map[string]struct {
		regs []int64
		want impl.Opened
	}{
		"the same":                 {[]int64{5, 6, 7}, impl.Opened{Data: "a secret"}},
		"one that is not named":    {[]int64{5, 1<<32 - 1, 7}, impl.Opened{Data: "a secret"}},
		"more of them":             {[]int64{5, 6, 7, 8}, impl.Opened{Data: "a secret"}},
		"the first one":            {[]int64{4, 6, 7}, impl.Opened{Code: impl.ErrRight}},
		"the last one":             {[]int64{5, 6, 8}, impl.Opened{Code: impl.ErrRight}},
		"turned":                   {[]int64{7, 6, 5}, impl.Opened{Code: impl.ErrRight}},
		"fewer than the mask has":  {[]int64{5, 6}, impl.Opened{Code: impl.ErrForm}},
		"none":                     {nil, impl.Opened{Code: impl.ErrForm}},
		"no word, not named":       {[]int64{5, -1, 7}, impl.Opened{Code: impl.ErrForm}},
		"no word, of the same low": {[]int64{5 + 1<<32, 6, 7}, impl.Opened{Code: impl.ErrForm}},
	} {
		checkEqual(t, what, checkUnseal(t, what, "root", c.regs, s), c.want)
	}
}

func TestP28WhatWasSealedIsUnsealed(t *testing.T) {
	rng := rand.New(rand.NewSource(1528))
	refused := 0
	for n := range 3000 {
		what := fmt.Sprintf("seal %d", n)
		root, data, regs := randomBytes(rng, rng.Intn(30)), randomBytes(rng, rng.Intn(40)), randomRegisters(rng)
		mask := rng.Int63n(1 << len(regs))
		s := checkSeal(t, what, root, regs, mask, data)
		checkEqual(t, what, checkUnseal(t, what, root, regs, s), impl.Opened{Data: data})
		other := slices.Clone(regs)
		for at := range other {
			if mask>>at&1 == 0 {
				other[at] = randomWord(rng)
			}
		}
		checkEqual(t, what+", others changed", checkUnseal(t, what, root, other, s), impl.Opened{Data: data})
		at := rng.Intn(len(regs))
		if mask>>at&1 == 1 {
			other[at] ^= 1 << rng.Intn(32)
			checkEqual(t, what+", one that is named changed", checkUnseal(t, what, root, other, s), impl.Opened{Code: impl.ErrRight})
			refused++
		}
	}
	if refused < 1000 {
		t.Errorf("only %d were refused", refused)
	}
}

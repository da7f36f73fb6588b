package tests

import (
	"fmt"
	"math"
	"math/rand"
	"slices"
	"testing"

	"loop.example/g00038/impl"
)

func checkTlb(t *testing.T, what string, got impl.Tlb, want impl.Tlb) {
	t.Helper()
	if got.Next != want.Next || !slices.Equal(got.Entries, want.Entries) {
		t.Errorf("%s: got %+v, want %+v", what, got, want)
	}
}

func checkHit(t *testing.T, what string, got impl.TlbHit, want impl.TlbHit) {
	t.Helper()
	if got != want {
		t.Errorf("%s: got %+v, want %+v", what, got, want)
	}
}

// someTlb has that many entries, each of another page.
func someTlb(count int64, next int64) impl.Tlb {
	t := impl.Tlb{Next: next}
	for n := range count {
		t.Entries = append(t.Entries, impl.TlbEntry{Asid: n % 3, Page: 10 * n, Frame: n, Flags: flagV | flagR})
	}
	return t
}

// randomTlb is right; its pages lie close to one another, so that many are found.
func randomTlb(rng *rand.Rand, count int) impl.Tlb {
	t := impl.Tlb{Next: rng.Int63n(16)}
	for len(t.Entries) < count {
		e := impl.TlbEntry{Asid: rng.Int63n(3), Page: rng.Int63n(128), Frame: rng.Int63n(1024), Flags: rng.Int63n(256), Large: rng.Intn(4) == 0}
		if e.Large {
			e.Page, e.Frame = e.Page/32*32, e.Frame/32*32
		}
		if impl.TlbFault(impl.Tlb{Entries: append(slices.Clone(t.Entries), e)}) == 0 {
			t.Entries = append(t.Entries, e)
		}
	}
	return t
}

// wrongEntries are no entries of a right cache.
func wrongEntries() map[string]impl.TlbEntry {
	return map[string]impl.TlbEntry{
		"Asid -1":                        {Asid: -1, Flags: 3},
		"Asid 256":                       {Asid: 256, Flags: 3},
		"Page -1":                        {Page: -1, Flags: 3},
		"Page 1024":                      {Page: 1024, Flags: 3},
		"Frame -1":                       {Frame: -1, Flags: 3},
		"Frame 1024":                     {Frame: 1024, Flags: 3},
		"Flags -1":                       {Flags: -1},
		"Flags 256":                      {Flags: 256},
		"a large Page of 1":              {Page: 1, Large: true},
		"a large Page of 1008":           {Page: 1008, Large: true},
		"a large Frame of 31":            {Frame: 31, Large: true},
		"a large Page of 1024":           {Page: 1024, Large: true},
		"a large Frame of -32":           {Frame: -32, Large: true},
		"the least numbers that are not": {Asid: math.MinInt64, Page: math.MinInt64, Frame: math.MinInt64, Flags: math.MinInt64},
	}
}

func TestTlbFault(t *testing.T) {
	right := map[string]impl.Tlb{
		"an empty one":      {},
		"the greatest Next": {Next: 15},
		"sixteen entries":   someTlb(16, 3),
		"the greatest numbers": {Entries: []impl.TlbEntry{{Asid: 255, Page: 1023, Frame: 1023, Flags: 255},
			{Asid: 255, Page: 992, Frame: 992, Flags: 255, Large: true}}},
		"entries alike but for one field": {Entries: []impl.TlbEntry{{Page: 32, Asid: 1}, {Page: 32, Asid: 2}, {Page: 33, Asid: 1}, {Page: 32, Asid: 1, Large: true}}},
	}
	for what, tlb := range right {
		checkNumber(t, what, impl.TlbFault(tlb), impl.OK)
	}
	wrong := map[string]impl.Tlb{
		"seventeen entries":           someTlb(17, 0),
		"Next -1":                     someTlb(2, -1),
		"Next 16":                     someTlb(2, 16),
		"two alike":                   {Entries: []impl.TlbEntry{{Page: 1}, {Page: 2}, {Page: 1, Frame: 5, Flags: 9}}},
		"two large ones alike":        {Entries: []impl.TlbEntry{{Page: 32, Large: true}, {Page: 32, Frame: 32, Large: true}}},
		"two alike, with G and not":   {Entries: []impl.TlbEntry{{Page: 1}, {Page: 1, Flags: flagG}}},
		"more entries than any cache": {Entries: make([]impl.TlbEntry, 2000)},
	}
	for what, e := range wrongEntries() {
		wrong[what] = impl.Tlb{Entries: []impl.TlbEntry{{Page: 96}, e}}
	}
	for what, tlb := range wrong {
		checkNumber(t, what, impl.TlbFault(tlb), impl.ErrForm)
		checkHit(t, "TlbFind of "+what, impl.TlbFind(tlb, 0, 0, 1, false), impl.TlbHit{})
		checkTlb(t, "TlbPut into "+what, impl.TlbPut(tlb, impl.TlbEntry{Page: 77}), impl.Tlb{})
		checkTlb(t, "TlbPut of a wrong one into "+what, impl.TlbPut(tlb, impl.TlbEntry{Page: -1}), impl.Tlb{})
		checkTlb(t, "TlbFlush of "+what, impl.TlbFlush(tlb, 0, 0), impl.Tlb{})
	}
}

func TestTlbFindByAsidAndPage(t *testing.T) {
	tlb := impl.Tlb{Entries: []impl.TlbEntry{
		{Asid: 1, Page: 3, Frame: 7, Flags: flagR},
		{Asid: 2, Page: 3, Frame: 8, Flags: flagR},
		{Asid: 9, Page: 4, Frame: 9, Flags: flagR | flagG},
		{Asid: 1, Page: 4, Frame: 10, Flags: flagR},
		{Asid: 0, Page: 64, Frame: 96, Flags: flagR, Large: true},
		{Asid: 255, Page: 1023, Frame: 1023, Flags: flagR},
	}}
	hits := []struct {
		asid, va int64
		want     impl.TlbHit
	}{
		{1, 0x300, impl.TlbHit{Good: true, Pa: 0x700, At: 0}},
		{1, 0x3ff, impl.TlbHit{Good: true, Pa: 0x7ff, At: 0}},
		{2, 0x304, impl.TlbHit{Good: true, Pa: 0x804, At: 1}},
		{3, 0x304, impl.TlbHit{}},
		{1, 0x2ff, impl.TlbHit{}},
		{1, 0x401, impl.TlbHit{Good: true, Pa: 0x901, At: 2}},
		{0, 0x401, impl.TlbHit{Good: true, Pa: 0x901, At: 2}},
		{255, 0x401, impl.TlbHit{Good: true, Pa: 0x901, At: 2}},
		{0, 64 * 256, impl.TlbHit{Good: true, Pa: 96 * 256, At: 4}},
		{0, 96*256 - 1, impl.TlbHit{Good: true, Pa: 128*256 - 1, At: 4}},
		{0, 96 * 256, impl.TlbHit{}},
		{0, 64*256 - 1, impl.TlbHit{}},
		{1, 64 * 256, impl.TlbHit{}},
		{255, impl.MaxVa - 1, impl.TlbHit{Good: true, Pa: impl.MaxVa - 1, At: 5}},
		{255, impl.MaxVa, impl.TlbHit{}},
		{255, -1, impl.TlbHit{}},
		{-1, 0x401, impl.TlbHit{}},
		{256, 0x401, impl.TlbHit{}},
	}
	for _, h := range hits {
		checkHit(t, fmt.Sprintf("asid %d, address %#x", h.asid, h.va), impl.TlbFind(tlb, h.asid, h.va, impl.AccRead, false), h.want)
	}
	for _, acc := range []int64{0, 4, -1, math.MaxInt64, math.MinInt64} {
		checkHit(t, fmt.Sprintf("access %d", acc), impl.TlbFind(tlb, 1, 0x300, acc, false), impl.TlbHit{})
	}
}

func TestTlbFindIsLetByTheFlags(t *testing.T) {
	for flags := range int64(256) {
		for acc := int64(1); acc <= 3; acc++ {
			for _, user := range []bool{false, true} {
				needs := []int64{0, flagR, flagW | flagD, flagX}[acc]
				let := flags&needs == needs
				if user {
					let = let && flags&flagU != 0
				} else if acc == impl.AccFetch {
					let = let && flags&flagU == 0
				}
				tlb := impl.Tlb{Entries: []impl.TlbEntry{{Page: 5, Frame: 6, Flags: flags}}}
				want := impl.TlbHit{}
				if let {
					want = impl.TlbHit{Good: true, Pa: 6 * 256}
				}
				checkHit(t, fmt.Sprintf("flags %d, access %d, user %v", flags, acc, user), impl.TlbFind(tlb, 0, 5*256, acc, user), want)
			}
		}
	}
}

func TestTlbFindStopsAtTheFirstEntry(t *testing.T) {
	tlb := impl.Tlb{Entries: []impl.TlbEntry{
		{Asid: 1, Page: 32, Frame: 64, Flags: flagX, Large: true},
		{Asid: 1, Page: 33, Frame: 7, Flags: flagR},
		{Asid: 2, Page: 33, Frame: 8, Flags: flagR | flagG},
	}}
	checkHit(t, "the first one does not let it", impl.TlbFind(tlb, 1, 33*256, impl.AccRead, false), impl.TlbHit{})
	checkHit(t, "the first one lets it", impl.TlbFind(tlb, 1, 33*256+2, impl.AccFetch, false), impl.TlbHit{Good: true, Pa: 65*256 + 2})
	checkHit(t, "the first one is another's", impl.TlbFind(tlb, 2, 33*256, impl.AccRead, false), impl.TlbHit{Good: true, Pa: 8 * 256, At: 2})
}

func TestTlbPut(t *testing.T) {
	e := impl.TlbEntry{Asid: 4, Page: 1000, Frame: 5, Flags: 9}
	checkTlb(t, "into an empty one", impl.TlbPut(impl.Tlb{Next: 7}, e), impl.Tlb{Entries: []impl.TlbEntry{e}, Next: 7})
	three := someTlb(3, 2)
	checkTlb(t, "behind all", impl.TlbPut(three, e), impl.Tlb{Entries: append(slices.Clone(three.Entries), e), Next: 2})
	fifteen := someTlb(15, 2)
	checkTlb(t, "as the sixteenth", impl.TlbPut(fifteen, e), impl.Tlb{Entries: append(slices.Clone(fifteen.Entries), e), Next: 2})
	for next := range int64(16) {
		full := someTlb(16, next)
		want := impl.Tlb{Entries: slices.Clone(full.Entries), Next: (next + 1) % 16}
		want.Entries[next] = e
		checkTlb(t, fmt.Sprintf("into a full one at %d", next), impl.TlbPut(full, e), want)
		checkTlb(t, "the full one itself", full, someTlb(16, next))
	}
}

func TestTlbPutInPlaceOfTheSame(t *testing.T) {
	for _, count := range []int64{4, 16} {
		for at := range count {
			tlb := someTlb(count, 3)
			e := impl.TlbEntry{Asid: at % 3, Page: 10 * at, Frame: 1023, Flags: 255}
			want := impl.Tlb{Entries: slices.Clone(tlb.Entries), Next: 3}
			want.Entries[at] = e
			checkTlb(t, "the same Asid, Page and Large", impl.TlbPut(tlb, e), want)
			checkTlb(t, "what was handed in", tlb, someTlb(count, 3))
		}
	}
	tlb := impl.Tlb{Entries: []impl.TlbEntry{{Asid: 1, Page: 32, Flags: flagG}}}
	for _, e := range []impl.TlbEntry{{Asid: 2, Page: 32, Flags: flagG}, {Asid: 1, Page: 33}, {Asid: 1, Page: 32, Large: true}} {
		checkTlb(t, "another Asid, Page or Large", impl.TlbPut(tlb, e), impl.Tlb{Entries: []impl.TlbEntry{tlb.Entries[0], e}})
	}
}

func TestTlbPutOfAWrongEntry(t *testing.T) {
	for what, e := range wrongEntries() {
		checkTlb(t, what, impl.TlbPut(someTlb(3, 5), e), someTlb(3, 5))
		checkTlb(t, what, impl.TlbPut(someTlb(16, 15), e), someTlb(16, 15))
	}
}

func TestTlbAnswersAreNewMemory(t *testing.T) {
	tlb := someTlb(3, 0)
	tlb.Entries = slices.Grow(tlb.Entries, 5)
	put := impl.TlbPut(tlb, impl.TlbEntry{Page: 900})
	put.Entries[0].Page = 901
	same := impl.TlbPut(tlb, impl.TlbEntry{Page: -1})
	same.Entries[1].Page = 902
	flushed := impl.TlbFlush(tlb, -1, 0)
	flushed.Entries[0].Page = 903
	checkTlb(t, "what was handed in", tlb, someTlb(3, 0))
	checkNumber(t, "what lies behind what was handed in", tlb.Entries[:4][3].Page, 0)
}

func TestTlbFlush(t *testing.T) {
	mine := impl.TlbEntry{Asid: 1, Page: 3, Flags: flagR}
	shared := impl.TlbEntry{Asid: 1, Page: 4, Flags: flagG}
	large := impl.TlbEntry{Asid: 1, Page: 32, Frame: 64, Flags: flagR, Large: true}
	other := impl.TlbEntry{Asid: 2, Page: 3, Flags: flagR}
	sharedOther := impl.TlbEntry{Asid: 2, Page: 40, Flags: flagG}
	all := []impl.TlbEntry{mine, shared, large, other, sharedOther}
	flushes := []struct {
		asid, va int64
		stays    []impl.TlbEntry
	}{
		{1, -1, []impl.TlbEntry{shared, other, sharedOther}},
		{1, math.MinInt64, []impl.TlbEntry{shared, other, sharedOther}},
		{2, -1, []impl.TlbEntry{mine, shared, large, sharedOther}},
		{0, -1, all},
		{256, -1, all},
		{-1, -1, nil},
		{math.MinInt64, -7, nil},
		{1, 0x3ff, []impl.TlbEntry{shared, large, other, sharedOther}},
		{-1, 0x300, []impl.TlbEntry{shared, large, sharedOther}},
		{1, 0x400, all},
		{-1, 0x400, []impl.TlbEntry{mine, large, other, sharedOther}},
		{1, 32 * 256, []impl.TlbEntry{mine, shared, other, sharedOther}},
		{1, 64*256 - 1, []impl.TlbEntry{mine, shared, other, sharedOther}},
		{1, 64 * 256, all},
		{1, 32*256 - 1, all},
		{-1, 40*256 + 8, []impl.TlbEntry{mine, shared, other}},
		{-1, impl.MaxVa, all},
		{-1, math.MaxInt64, all},
	}
	for _, f := range flushes {
		got := impl.TlbFlush(impl.Tlb{Entries: slices.Clone(all), Next: 9}, f.asid, f.va)
		checkTlb(t, fmt.Sprintf("asid %d, address %#x", f.asid, f.va), got, impl.Tlb{Entries: f.stays})
	}
	checkTlb(t, "an empty one", impl.TlbFlush(impl.Tlb{Next: 15}, 1, 1), impl.Tlb{})
}

// entryOfWalk is what is kept of a walk without fault.
func entryOfWalk(w impl.Walked, asid int64, va int64) impl.TlbEntry {
	e := impl.TlbEntry{Asid: asid, Page: va / 256, Frame: w.Entry / 256, Flags: w.Entry % 256, Large: w.Large}
	if e.Large {
		e.Page = e.Page / 32 * 32
	}
	return e
}

func TestP8WhatAWalkAnswersIsFoundInTheCache(t *testing.T) {
	rng := rand.New(rand.NewSource(81))
	kept := 0
	eachWalk(82, func(mem string, root int64, va int64, acc int64, user bool) {
		w := impl.Walk(mem, root, va, acc, user)
		if w.Fault != 0 {
			return
		}
		kept++
		asid := rng.Int63n(256)
		flushed := impl.TlbFlush(randomTlb(rng, rng.Intn(17)), -1, va)
		tlb := impl.TlbPut(flushed, entryOfWalk(w, asid, va))
		checkNumber(t, "TlbFault", impl.TlbFault(tlb), 0)
		hit := impl.TlbFind(tlb, asid, va, acc, user)
		if !hit.Good || hit.Pa != w.Pa {
			t.Errorf("address %#x, access %d, user %v: got %+v of a walk to %d", va, acc, user, hit, w.Pa)
		}
		for _, gone := range []impl.Tlb{impl.TlbFlush(tlb, -1, va), impl.TlbFlush(tlb, -1, -1)} {
			checkHit(t, "flushed", impl.TlbFind(gone, asid, va, acc, user), impl.TlbHit{})
		}
		if w.Entry&flagG == 0 {
			checkHit(t, "flushed for its asid", impl.TlbFind(impl.TlbFlush(tlb, asid, va), asid, va, acc, user), impl.TlbHit{})
		}
	})
	if kept < 100 {
		t.Errorf("no more than %d walks were kept", kept)
	}
}

func TestP8AFullCacheWithoutTheAddress(t *testing.T) {
	rng := rand.New(rand.NewSource(83))
	mem := withEntries(emptyMemory(8), tableEntry{0, 31, 1, flagV}, tableEntry{1, 2, 7, flagV | flagR | flagW})
	va := vaOf(31, 2, 3)
	for range 50 {
		tlb := randomTlb(rng, 16)
		w := impl.Walk(mem, 0, va, impl.AccWrite, false)
		put := impl.TlbPut(tlb, entryOfWalk(w, 7, va))
		checkHit(t, "in a full cache", impl.TlbFind(put, 7, va, impl.AccWrite, false), impl.TlbHit{Good: true, Pa: w.Pa, At: tlb.Next})
	}
}

package tests

import (
	"fmt"
	"math"
	"math/rand"
	"slices"
	"strings"
	"testing"

	"loop.example/g00038/impl"
)

// someHost has two guests with a cell that is shared, one of each, a slot in Swap and one of nothing.
func someHost() impl.MemHost {
	return impl.MemHost{
		Cells: []string{cellOf("a"), cellOf("b"), "", cellOf("c")},
		Swap:  []string{"", cellOf("d")},
		Guests: []impl.MemGuest{
			{Slots: []impl.MemSlot{frameSlot(0, 3), frameSlot(1, 5), swapSlot(1, 0), noSlot(2)}, Dirty: "\x0a"},
			{Slots: []impl.MemSlot{frameSlot(0, 4), frameSlot(3, 1)}},
		},
		Time: 5,
	}
}

// hugeHost has one guest with the groups 0 and 2 huge, at the cells from 8 on and from 4 on, four cells of its own between, and two slots behind.
func hugeHost() impl.MemHost {
	h := impl.MemHost{Cells: make([]string, 18), Swap: []string{""}, Guests: []impl.MemGuest{{Huge: []int64{0, 2}}}, Time: 9}
	for n, at := range []int64{8, 9, 10, 11, 0, 2, 1, 3, 4, 5, 6, 7, 17, 17} {
		h.Cells[at] = cellOf(string(rune('a' + n)))
		h.Guests[0].Slots = append(h.Guests[0].Slots, frameSlot(at, int64(n%5)))
	}
	return h
}

type hostCase struct {
	what   string
	change func(h *impl.MemHost)
	right  bool
}

func checkHostCases(t *testing.T, base func() impl.MemHost, cases []hostCase) {
	t.Helper()
	for _, c := range cases {
		h := base()
		c.change(&h)
		checkHostFault(t, c.what, h, c.right)
	}
}

// checkHostFault holds all three calls to what is said of a host.
func checkHostFault(t *testing.T, what string, h impl.MemHost, right bool) {
	t.Helper()
	was := hostText(h)
	code := int64(impl.ErrForm)
	if right {
		code = impl.OK
	}
	checkNumber(t, what+": MemHostFault", impl.MemHostFault(h), code)
	if plainHostRight(h) != right {
		t.Errorf("%s: the plain host is not so", what)
	}
	run := impl.RunMemory(h, []impl.MemOp{{Kind: impl.MmShare}})
	checkNumber(t, what+": RunMemory", run.Code, plainMemory(h, []impl.MemOp{{Kind: 5}}).Code)
	if run.Code != impl.OK {
		checkAlike(t, what+": RunMemory", run, impl.MemRun{Code: impl.ErrForm})
	}
	for guest := range h.Guests {
		texts := impl.CellsOf(h, int64(guest))
		if !slices.Equal(texts, plainCells(h, int64(guest))) {
			t.Errorf("%s: CellsOf %d: got %q", what, guest, texts)
		}
	}
	checkText(t, what+": what was handed in", hostText(h), was)
}

func TestConstantsOfMemory(t *testing.T) {
	bounds := []int64{impl.CellSize, impl.MaxCells, impl.MaxSlots, impl.MaxGuests, impl.HugeSlots}
	checkNumbers(t, "bounds", bounds, []int64{16, 64, 32, 8, 4})
	checkNumbers(t, "slots", []int64{impl.SlotNone, impl.SlotFrame, impl.SlotSwap}, []int64{0, 1, 2})
	kinds := []int64{impl.MmRead, impl.MmWrite, impl.MmBalloon, impl.MmSwap, impl.MmShare, impl.MmHuge, impl.MmSplit, impl.MmLog}
	checkNumbers(t, "ops", kinds, []int64{1, 2, 3, 4, 5, 6, 7, 8})
}

func TestHostOfCells(t *testing.T) {
	long := strings.Repeat("x", impl.MaxBytes+1)
	checkHostCases(t, someHost, []hostCase{
		{"as it is", func(h *impl.MemHost) {}, true},
		{"MaxCells", func(h *impl.MemHost) { h.Cells = append(h.Cells, make([]string, 60)...) }, true},
		{"one more cell", func(h *impl.MemHost) { h.Cells = append(h.Cells, make([]string, 61)...) }, false},
		{"far more cells", func(h *impl.MemHost) { h.Cells = append(h.Cells, make([]string, 5000)...) }, false},
		{"MaxCells of Swap", func(h *impl.MemHost) { h.Swap = append(h.Swap, make([]string, 62)...) }, true},
		{"one more of Swap", func(h *impl.MemHost) { h.Swap = append(h.Swap, make([]string, 63)...) }, false},
		{"a cell one byte short", func(h *impl.MemHost) { h.Cells[1] = h.Cells[1][1:] }, false},
		{"a cell one byte long", func(h *impl.MemHost) { h.Cells[1] += "b" }, false},
		{"a cell of one byte", func(h *impl.MemHost) { h.Cells[1] = "b" }, false},
		{"a cell of two", func(h *impl.MemHost) { h.Cells[1] += h.Cells[1] }, false},
		{"a cell of very many bytes", func(h *impl.MemHost) { h.Cells[1] = long }, false},
		{"a cell of bytes 0", func(h *impl.MemHost) { h.Cells[1] = bytes0(16) }, true},
		{"a place one byte short", func(h *impl.MemHost) { h.Swap[1] = h.Swap[1][1:] }, false},
		{"a place one byte long", func(h *impl.MemHost) { h.Swap[1] += "d" }, false},
		{"a place of very many bytes", func(h *impl.MemHost) { h.Swap[1] = long }, false},
		{"a cell that none leads to", func(h *impl.MemHost) { h.Cells[2] = cellOf("e") }, false},
		{"a first cell that none leads to", func(h *impl.MemHost) {
			h.Guests[0].Slots[0], h.Guests[1].Slots[0] = noSlot(3), noSlot(3)
		}, false},
		{"a cell that one leads to no more", func(h *impl.MemHost) { h.Guests[1].Slots[0] = noSlot(3) }, true},
		{"a last cell that none leads to", func(h *impl.MemHost) { h.Guests[1].Slots[1] = noSlot(0) }, false},
		{"a cell that three lead to", func(h *impl.MemHost) { h.Guests[0].Slots[3] = frameSlot(0, 1) }, true},
		{"a place that none leads to", func(h *impl.MemHost) { h.Swap[0] = cellOf("e") }, false},
		{"a last place that none leads to", func(h *impl.MemHost) { h.Guests[0].Slots[2] = noSlot(0) }, false},
		{"a place that two of a guest lead to", func(h *impl.MemHost) { h.Guests[0].Slots[3] = swapSlot(1, 1) }, false},
		{"a place that two guests lead to", func(h *impl.MemHost) { h.Guests[1].Slots[0] = swapSlot(1, 1) }, false},
		{"none of all", func(h *impl.MemHost) { *h = impl.MemHost{Guests: []impl.MemGuest{{}}} }, true},
		{"nothing", func(h *impl.MemHost) { *h = impl.MemHost{} }, false},
	})
}

func TestHostOfGuests(t *testing.T) {
	checkHostCases(t, someHost, []hostCase{
		{"MaxGuests", func(h *impl.MemHost) { h.Guests = append(h.Guests, make([]impl.MemGuest, 6)...) }, true},
		{"one more", func(h *impl.MemHost) { h.Guests = append(h.Guests, make([]impl.MemGuest, 7)...) }, false},
		{"no guests", func(h *impl.MemHost) { h.Guests, h.Cells, h.Swap = nil, nil, nil }, false},
		{"one guest", func(h *impl.MemHost) { h.Guests, h.Cells[3] = h.Guests[:1], "" }, true},
		{"one guest without slots", func(h *impl.MemHost) { *h = impl.MemHost{Cells: []string{""}, Guests: make([]impl.MemGuest, 1)} }, true},
		{"MaxSlots", func(h *impl.MemHost) {
			h.Guests[1].Slots = append(h.Guests[1].Slots, make([]impl.MemSlot, 30)...)
		}, true},
		{"one slot more", func(h *impl.MemHost) {
			h.Guests[1].Slots = append(h.Guests[1].Slots, make([]impl.MemSlot, 31)...)
		}, false},
		{"one slot more of the first one", func(h *impl.MemHost) {
			h.Guests[0].Slots = append(h.Guests[0].Slots, make([]impl.MemSlot, 29)...)
		}, false},
		{"MaxSlots of each", func(h *impl.MemHost) {
			h.Guests[0].Slots = append(h.Guests[0].Slots, make([]impl.MemSlot, 28)...)
			h.Guests[1].Slots = append(h.Guests[1].Slots, make([]impl.MemSlot, 30)...)
		}, true},
	})
}

func TestHostOfSlots(t *testing.T) {
	cases := []hostCase{}
	slot := func(what string, s impl.MemSlot, right bool) {
		put := func(h *impl.MemHost) { h.Guests[0].Slots[3] = s }
		cases = append(cases, hostCase{fmt.Sprintf("%s %v", what, s), put, right})
	}
	for _, kind := range []int64{-1, 3, 4, 256, 257, math.MinInt64, math.MaxInt64} {
		slot("kind", impl.MemSlot{Kind: kind}, false)
		slot("kind", impl.MemSlot{Kind: kind, At: 1}, false)
	}
	for _, at := range []int64{-1, 1, 3, 4, 100, math.MinInt64, math.MaxInt64} {
		slot("nothing", impl.MemSlot{At: at}, false)
	}
	for at, right := range map[int64]bool{0: true, 1: true, 2: false, 3: true, 4: false, 5: false, -1: false, math.MinInt64: false, math.MaxInt64: false} {
		slot("cell", frameSlot(at, 0), right)
	}
	for _, at := range []int64{-1, 0, 1, 2, 3, math.MinInt64, math.MaxInt64} {
		slot("place", swapSlot(at, 0), false)
	}
	for used, right := range map[int64]bool{-1: false, 0: true, 4: true, 5: true, 6: false, math.MinInt64: false, math.MaxInt64: false} {
		slot("used", noSlot(used), right)
		slot("used", frameSlot(0, used), right)
		cases = append(cases, hostCase{fmt.Sprintf("used %d in Swap", used), func(h *impl.MemHost) { h.Guests[0].Slots[2].Used = used }, right})
		cases = append(cases, hostCase{fmt.Sprintf("used %d of the last one", used), func(h *impl.MemHost) { h.Guests[1].Slots[1].Used = used }, right})
	}
	checkHostCases(t, someHost, cases)
}

func TestHostOfSwap(t *testing.T) {
	for at, right := range map[int64]bool{-1: false, 0: false, 1: true, 2: false, math.MaxInt64: false} {
		h := someHost()
		h.Guests[0].Slots[2].At = at
		checkHostFault(t, fmt.Sprintf("place %d", at), h, right)
	}
	h := someHost()
	h.Swap[0], h.Guests[0].Slots[3] = cellOf("e"), swapSlot(0, 0)
	checkHostFault(t, "a second place", h, true)
	h.Guests[0].Slots[2] = swapSlot(0, 0)
	checkHostFault(t, "a second place twice", h, false)
}

func TestHostOfTimes(t *testing.T) {
	for time, right := range map[int64]bool{5: true, 4: false, 6: true, 0: false, -1: false, 1 << 40: true, 1<<40 + 1: false, math.MaxInt64: false, math.MinInt64: false} {
		h := someHost()
		h.Time = time
		checkHostFault(t, fmt.Sprintf("time %d", time), h, right)
	}
	for time, right := range map[int64]bool{0: true, -1: false, 1 << 40: true, 1<<40 + 1: false, math.MaxInt64: false, math.MinInt64: false} {
		h := impl.MemHost{Guests: []impl.MemGuest{{}}, Time: time}
		checkHostFault(t, fmt.Sprintf("time %d of no slots", time), h, right)
	}
	h := impl.MemHost{Guests: []impl.MemGuest{guestOf(noSlot(1 << 40))}, Time: 1 << 40}
	checkHostFault(t, "used at the end", h, true)
}

func TestHostOfDirty(t *testing.T) {
	for dirty, right := range map[string]bool{
		"": true, "\x00": true, "\x01": true, "\x0f": true, "\x10": false, "\x1f": false, "\x80": false, "\xff": false,
		"\x00\x00": true, "\x0f\x00\x00\x00": true, "\x00\x01": false, "\x00\x00\x00\x80": false, "\x00\x00\x00\x01": false,
		"\x00\x00\x00\x00\x00": false, "\x01\x00\x00\x00\x00": false, strings.Repeat("\x00", 65537): false,
	} {
		h := someHost()
		h.Guests[0].Dirty = dirty
		checkHostFault(t, fmt.Sprintf("dirty of %d bytes, %q", len(dirty), dirty[:min(len(dirty), 5)]), h, right)
	}
	for dirty, right := range map[string]bool{"\x00": true, "\x01": false, "\x00\x00\x00\x00": true, "\x00\x00\x00\x00\x00": false} {
		h := impl.MemHost{Guests: []impl.MemGuest{{}, {Dirty: dirty}}}
		checkHostFault(t, fmt.Sprintf("dirty %q of no slots", dirty), h, right)
	}
	full := impl.MemHost{Guests: []impl.MemGuest{{Slots: make([]impl.MemSlot, 32), Dirty: "\xff\xff\xff\xff"}}}
	checkHostFault(t, "all slots are dirty", full, true)
	full.Guests[0].Slots = full.Guests[0].Slots[:31]
	checkHostFault(t, "and one more", full, false)
	full.Guests[0].Dirty = "\xff\xff\xff\x7f"
	checkHostFault(t, "31 are dirty", full, true)
}

func TestHostOfHugeGroups(t *testing.T) {
	huge := func(groups ...int64) func(h *impl.MemHost) {
		return func(h *impl.MemHost) { h.Guests[0].Huge = groups }
	}
	checkHostCases(t, hugeHost, []hostCase{
		{"as it is", func(h *impl.MemHost) {}, true},
		{"none", huge(), true},
		{"the first", huge(0), true},
		{"the last", huge(2), true},
		{"twice", huge(0, 0), false},
		{"twice the last", huge(0, 2, 2), false},
		{"falling", huge(2, 0), false},
		{"cells in another order", huge(0, 1, 2), false},
		{"cells in another order alone", huge(1), false},
		{"below 0", huge(-1), false},
		{"below 0, ahead", huge(-1, 0), false},
		{"far below", huge(math.MinInt64), false},
		{"one that is not whole", huge(0, 2, 3), false},
		{"behind the last", huge(4), false},
		{"far behind", huge(0, math.MaxInt64), false},
		{"as many as wrap", huge(1 << 62), false},
		{"very many", func(h *impl.MemHost) { h.Guests[0].Huge = make([]int64, 5000) }, false},
		{"a shared cell", func(h *impl.MemHost) { h.Guests[0].Slots[12].At = 8 }, false},
		{"a shared last cell", func(h *impl.MemHost) { h.Guests[0].Slots[12].At = 7 }, false},
		{"a cell that another guest shares", func(h *impl.MemHost) {
			h.Guests = append(h.Guests, guestOf(frameSlot(6, 0)))
		}, false},
		{"a cell beside that another guest shares", func(h *impl.MemHost) {
			h.Guests = append(h.Guests, guestOf(frameSlot(3, 0)))
		}, true},
		{"a slot of nothing", func(h *impl.MemHost) { h.Guests[0].Slots[2], h.Cells[10] = noSlot(0), "" }, false},
		{"a slot in Swap", func(h *impl.MemHost) { h.Guests[0].Slots[2], h.Cells[10], h.Swap[0] = swapSlot(0, 0), "", cellOf("x") }, false},
		{"two that changed places", func(h *impl.MemHost) {
			s := h.Guests[0].Slots
			s[0], s[1] = s[1], s[0]
		}, false},
	})
}

// Four places of Swap in a row are no huge group, nor are cells from elsewhere than a multiple on.
func TestHostOfNoHugeGroups(t *testing.T) {
	texts := []string{cellOf("a"), cellOf("b"), cellOf("c"), cellOf("d")}
	out := impl.MemGuest{Slots: []impl.MemSlot{swapSlot(0, 0), swapSlot(1, 0), swapSlot(2, 0), swapSlot(3, 0)}}
	checkHostFault(t, "places", impl.MemHost{Swap: texts, Guests: []impl.MemGuest{out}}, true)
	out.Huge = []int64{0}
	checkHostFault(t, "huge places", impl.MemHost{Swap: texts, Guests: []impl.MemGuest{out}}, false)
	nothing := impl.MemGuest{Slots: make([]impl.MemSlot, 4), Huge: []int64{0}}
	checkHostFault(t, "huge nothing", impl.MemHost{Cells: make([]string, 4), Guests: []impl.MemGuest{nothing}}, false)
	for from := range int64(9) {
		h := impl.MemHost{Cells: make([]string, 12), Guests: []impl.MemGuest{{}, {Huge: []int64{0}}}}
		for n := range int64(4) {
			h.Cells[from+n] = texts[n]
			h.Guests[1].Slots = append(h.Guests[1].Slots, frameSlot(from+n, 0))
		}
		checkHostFault(t, fmt.Sprintf("from cell %d on", from), h, from%4 == 0)
	}
	whole := impl.MemHost{Cells: make([]string, 64)}
	for guest := range int64(2) {
		g := impl.MemGuest{Huge: []int64{0, 1, 2, 3, 4, 5, 6, 7}}
		for n := range int64(32) {
			whole.Cells[guest*32+n] = cellOf("w")
			g.Slots = append(g.Slots, frameSlot(guest*32+n, 0))
		}
		whole.Guests = append(whole.Guests, g)
	}
	checkHostFault(t, "all is huge", whole, true)
	whole.Guests[1].Huge = append(whole.Guests[1].Huge, 8)
	checkHostFault(t, "and one more", whole, false)
}

func TestCellsOf(t *testing.T) {
	h := someHost()
	h.Cells[2], h.Guests[1].Slots = "0123456789abcdef", append(h.Guests[1].Slots, frameSlot(2, 0), frameSlot(0, 0), noSlot(0))
	for guest, want := range map[int64][]string{
		0:  {cellOf("a"), cellOf("b"), cellOf("d"), bytes0(16)},
		1:  {cellOf("a"), cellOf("c"), "0123456789abcdef", cellOf("a"), bytes0(16)},
		-1: nil, 2: nil, 3: nil, math.MinInt64: nil, math.MaxInt64: nil,
	} {
		if got := impl.CellsOf(h, guest); !slices.Equal(got, want) {
			t.Errorf("guest %d: got %q, want %q", guest, got, want)
		}
	}
	if got := impl.CellsOf(hugeHost(), 0); strings.Join(got, "")[:64] != cellOf("a")+cellOf("b")+cellOf("c")+cellOf("d") || len(got) != 14 {
		t.Errorf("huge groups: got %q", got)
	}
	if got := impl.CellsOf(impl.MemHost{Guests: make([]impl.MemGuest, 1)}, 0); len(got) != 0 {
		t.Errorf("no slots: got %q", got)
	}
	h.Time = 2
	if got := impl.CellsOf(h, 0); len(got) != 0 {
		t.Errorf("a host that is not right: got %q", got)
	}
}

// spoilHost changes one thing of a host, mostly so that it is right no more.
func spoilHost(rng *rand.Rand, h *impl.MemHost) {
	g := &h.Guests[rng.Intn(len(h.Guests))]
	kind := rng.Intn(8)
	switch {
	case kind == 0 && len(h.Cells) > 0:
		h.Cells[rng.Intn(len(h.Cells))] = cellOf("s")[:oneOf(rng, 0, 1, 15, 16)]
	case kind == 1 && len(h.Swap) > 0:
		h.Swap[rng.Intn(len(h.Swap))] = cellOf("s")[:oneOf(rng, 0, 1, 15, 16)]
	case kind == 2:
		h.Time += oneOf(rng, -1, 1, -5)
	case kind == 3:
		g.Dirty += string([]byte{byte(oneOf(rng, 0, 1, 128))})
	case kind == 4:
		g.Huge = append(g.Huge, rng.Int63n(8))
	case len(g.Slots) == 0:
		g.Slots = append(g.Slots, impl.MemSlot{Kind: oneOf(rng, 0, 1, 2)})
	case kind == 5:
		g.Slots[rng.Intn(len(g.Slots))].At += oneOf(rng, -1, 1)
	case kind == 6:
		g.Slots[rng.Intn(len(g.Slots))].Kind += oneOf(rng, -1, 1)
	default:
		g.Slots[rng.Intn(len(g.Slots))].Used += oneOf(rng, -1, 1, h.Time)
	}
}

func TestHostsThatAreSpoiled(t *testing.T) {
	rng := rand.New(rand.NewSource(1201))
	right, wrong := 0, 0
	for n := range 6000 {
		h := randomHost(rng)
		checkHostFault(t, "a right host", h, true)
		spoilHost(rng, &h)
		isRight := plainHostRight(h)
		checkHostFault(t, fmt.Sprintf("host %d: %s", n, hostText(h)), h, isRight)
		if isRight {
			right++
		} else {
			wrong++
		}
		if t.Failed() {
			return
		}
	}
	if right < 500 || wrong < 2000 {
		t.Errorf("%d hosts are right and %d wrong", right, wrong)
	}
}

package tests

import (
	"fmt"
	"math"
	"slices"
	"strings"
	"testing"

	"loop.example/g00038/impl"
)

func readOp(guest int64, slot int64) impl.MemOp {
	return impl.MemOp{Kind: impl.MmRead, Guest: guest, Slot: slot}
}

func writeOp(guest int64, slot int64, at int64, text string) impl.MemOp {
	return impl.MemOp{Kind: impl.MmWrite, Guest: guest, Slot: slot, At: at, Text: text}
}

func memOp(kind int64, guest int64, slot int64) impl.MemOp {
	return impl.MemOp{Kind: kind, Guest: guest, Slot: slot}
}

func codesOnly(codes ...int64) []impl.MemOut {
	var outs []impl.MemOut
	for _, code := range codes {
		outs = append(outs, impl.MemOut{Code: code})
	}
	return outs
}

// checkMemDone runs ops and holds their answers and the host behind them to what is said.
func checkMemDone(t *testing.T, what string, h impl.MemHost, ops []impl.MemOp, outs []impl.MemOut, want impl.MemHost) {
	t.Helper()
	run := checkMemoryRun(t, what, h, ops)
	checkNumber(t, what+": code", run.Code, impl.OK)
	checkOuts(t, what, run.Outs, outs)
	checkHost(t, what, run.Host, want)
}

// checkMemRefused runs ops of which each is refused, so that nothing but Time is another one.
func checkMemRefused(t *testing.T, what string, h impl.MemHost, ops []impl.MemOp, codes ...int64) {
	t.Helper()
	want := copyHost(h)
	want.Time += int64(len(ops))
	checkMemDone(t, what, h, ops, codesOnly(codes...), want)
}

func changedHost(h impl.MemHost, change func(h *impl.MemHost)) impl.MemHost {
	h = copyHost(h)
	change(&h)
	return h
}

func TestOpsOfNothingThatIsThere(t *testing.T) {
	for _, kind := range []int64{0, -1, 9, 10, 256 + 1, 1<<32 + 1, math.MinInt64, math.MaxInt64} {
		checkMemRefused(t, fmt.Sprintf("kind %d", kind), someHost(), []impl.MemOp{memOp(kind, 0, 0), memOp(kind, 9, 9)}, impl.ErrForm, impl.ErrForm)
	}
	for _, kind := range []int64{1, 2, 3, 4, 6, 7, 8} {
		for _, guest := range []int64{-1, 2, 3, math.MinInt64, math.MaxInt64} {
			checkMemRefused(t, fmt.Sprintf("kind %d of guest %d", kind, guest), someHost(), []impl.MemOp{memOp(kind, guest, 0)}, impl.ErrNone)
		}
	}
	for _, kind := range []int64{1, 2, 3, 4} {
		for _, slot := range []int64{-1, 4, 5, math.MinInt64, math.MaxInt64} {
			checkMemRefused(t, fmt.Sprintf("kind %d of slot %d", kind, slot), someHost(), []impl.MemOp{memOp(kind, 0, slot)}, impl.ErrNone)
		}
		checkMemRefused(t, fmt.Sprintf("kind %d of a slot of another guest", kind), someHost(), []impl.MemOp{memOp(kind, 1, 2)}, impl.ErrNone)
	}
	for _, kind := range []int64{6, 7} {
		for _, group := range []int64{-1, 1, 2, 4, 1 << 61, 1 << 62, math.MinInt64, math.MaxInt64} {
			checkMemRefused(t, fmt.Sprintf("kind %d of group %d", kind, group), someHost(), []impl.MemOp{memOp(kind, 0, group)}, impl.ErrNone)
		}
		checkMemRefused(t, fmt.Sprintf("kind %d of three slots", kind), impl.MemHost{Guests: []impl.MemGuest{{Slots: make([]impl.MemSlot, 3)}}}, []impl.MemOp{memOp(kind, 0, 0)}, impl.ErrNone)
		checkMemRefused(t, fmt.Sprintf("kind %d of seven slots", kind), impl.MemHost{Guests: []impl.MemGuest{{Slots: make([]impl.MemSlot, 7)}}}, []impl.MemOp{memOp(kind, 0, 0), memOp(kind, 0, 1)}, impl.ErrState, impl.ErrNone)
		checkMemRefused(t, fmt.Sprintf("kind %d in a huge host", kind), hugeHost(), []impl.MemOp{memOp(kind, 0, 3)}, impl.ErrNone)
	}
}

// MmShare asks for no guest, MmLog for no slot.
func TestOpsThatAskForLess(t *testing.T) {
	h := someHost()
	for _, n := range []int64{-1, 2, 99, math.MinInt64} {
		after := changedHost(h, func(h *impl.MemHost) { h.Time = 6 })
		checkMemDone(t, fmt.Sprintf("share of %d", n), h, []impl.MemOp{memOp(impl.MmShare, n, n)}, []impl.MemOut{{}}, after)
		after.Guests[0].Dirty = ""
		checkMemDone(t, fmt.Sprintf("log of slot %d", n), h, []impl.MemOp{memOp(impl.MmLog, 0, n)}, []impl.MemOut{{Text: "\x0a"}}, after)
	}
}

func TestMmRead(t *testing.T) {
	h := someHost()
	after := changedHost(h, func(h *impl.MemHost) {
		h.Guests[0].Slots[0].Used, h.Guests[1].Slots[1].Used, h.Guests[0].Slots[3].Used = 6, 7, 8
		h.Time = 8
	})
	ops := []impl.MemOp{readOp(0, 0), readOp(1, 1), readOp(0, 3)}
	checkMemDone(t, "cells and nothing", h, ops, []impl.MemOut{{Text: cellOf("a")}, {Text: cellOf("c")}, {Text: bytes0(16)}}, after)
	in := changedHost(h, func(h *impl.MemHost) {
		h.Guests[0].Slots[2] = frameSlot(2, 6)
		h.Cells[2], h.Swap[1], h.Time = cellOf("d"), "", 6
	})
	checkMemDone(t, "from Swap", h, []impl.MemOp{readOp(0, 2)}, []impl.MemOut{{Text: cellOf("d")}}, in)
	noise := impl.MemOp{Kind: impl.MmRead, Slot: 2, At: -9, Text: strings.Repeat("x", 65537)}
	checkMemDone(t, "At and Text count for nothing", h, []impl.MemOp{noise}, []impl.MemOut{{Text: cellOf("d")}}, in)
}

func TestMmWrite(t *testing.T) {
	h := someHost()
	own := changedHost(h, func(h *impl.MemHost) {
		h.Cells[3] = "cccccccccccccxyz"
		h.Guests[1].Slots[1].Used, h.Guests[1].Dirty, h.Time = 6, "\x02", 6
	})
	checkMemDone(t, "a cell", h, []impl.MemOp{writeOp(1, 1, 13, "xyz")}, []impl.MemOut{{}}, own)
	nothing := changedHost(h, func(h *impl.MemHost) {
		h.Cells[2] = "\x00\x00xy" + bytes0(12)
		h.Guests[0].Slots[3], h.Time = frameSlot(2, 6), 6
	})
	checkMemDone(t, "nothing yet, dirty already", h, []impl.MemOp{writeOp(0, 3, 2, "xy")}, []impl.MemOut{{}}, nothing)
	in := changedHost(h, func(h *impl.MemHost) {
		h.Cells[2], h.Swap[1] = "Zddddddddddddddd", ""
		h.Guests[0].Slots[2], h.Guests[0].Dirty, h.Time = frameSlot(2, 6), "\x0e", 6
	})
	checkMemDone(t, "from Swap", h, []impl.MemOp{writeOp(0, 2, 0, "Z")}, []impl.MemOut{{}}, in)
	shared := changedHost(h, func(h *impl.MemHost) {
		h.Cells[2] = "0123456789ABCDEF"
		h.Guests[1].Slots[0], h.Guests[1].Dirty, h.Time = frameSlot(2, 6), "\x01", 6
	})
	checkMemDone(t, "a shared one, as a whole", h, []impl.MemOp{writeOp(1, 0, 0, "0123456789ABCDEF")}, []impl.MemOut{{}}, shared)
	again := changedHost(shared, func(h *impl.MemHost) {
		h.Cells[0] = "aQaaaaaaaaaaaaaa"
		h.Guests[0].Slots[0].Used, h.Guests[0].Dirty, h.Time = 7, "\x0b", 7
	})
	checkMemDone(t, "which is shared no more", h, []impl.MemOp{writeOp(1, 0, 0, "0123456789ABCDEF"), writeOp(0, 0, 1, "Q")}, []impl.MemOut{{}, {}}, again)
}

func TestMmWriteOfDirtyBits(t *testing.T) {
	h := impl.MemHost{Cells: make([]string, 8), Guests: []impl.MemGuest{{Slots: make([]impl.MemSlot, 32)}, {Slots: make([]impl.MemSlot, 32), Dirty: "\x00\x00\x00\x00"}}}
	for slot, dirty := range map[int64]string{0: "\x01", 7: "\x80", 8: "\x00\x01", 31: "\x00\x00\x00\x80"} {
		after := changedHost(h, func(h *impl.MemHost) {
			h.Cells[0], h.Time = "x"+bytes0(15), 1
			h.Guests[0].Slots[slot], h.Guests[0].Dirty = frameSlot(0, 1), dirty
		})
		checkMemDone(t, fmt.Sprintf("slot %d", slot), h, []impl.MemOp{writeOp(0, slot, 0, "x")}, []impl.MemOut{{}}, after)
	}
	run := checkMemoryRun(t, "a long one", h, []impl.MemOp{writeOp(1, 9, 0, "x"), memOp(impl.MmLog, 1, 0), memOp(impl.MmLog, 1, 0), writeOp(1, 9, 0, "y"), memOp(impl.MmLog, 1, 0)})
	checkOuts(t, "a long one", run.Outs, []impl.MemOut{{}, {Text: "\x00\x02\x00\x00"}, {}, {}, {Text: "\x00\x02"}})
}

func TestMmWriteThatDoesNotFit(t *testing.T) {
	for slot := range int64(4) {
		h := someHost()
		for _, op := range []impl.MemOp{
			writeOp(0, slot, 0, ""), writeOp(0, slot, 16, ""), writeOp(0, slot, -1, ""), writeOp(0, slot, -1, "x"), writeOp(0, slot, -1, "xy"),
			writeOp(0, slot, 16, "x"), writeOp(0, slot, 15, "xy"), writeOp(0, slot, 0, strings.Repeat("x", 17)), writeOp(0, slot, 17, "x"),
			writeOp(0, slot, math.MaxInt64, "x"), writeOp(0, slot, math.MaxInt64, "xy"), writeOp(0, slot, math.MinInt64, "x"),
			writeOp(0, slot, 0, strings.Repeat("x", impl.MaxBytes)), writeOp(0, slot, 0, strings.Repeat("x", impl.MaxBytes+1)),
		} {
			checkMemRefused(t, fmt.Sprintf("slot %d at %d of %d bytes", slot, op.At, len(op.Text)), h, []impl.MemOp{op}, impl.ErrSize)
		}
		for _, op := range []impl.MemOp{writeOp(0, slot, 15, "x"), writeOp(0, slot, 14, "xy"), writeOp(0, slot, 0, cellOf("x")), writeOp(0, slot, 1, cellOf("x")[1:])} {
			run := checkMemoryRun(t, "what just fits", h, []impl.MemOp{op, readOp(0, slot)})
			want := plainReads(h, h.Guests[0].Slots[slot])[:op.At] + op.Text
			want += plainReads(h, h.Guests[0].Slots[slot])[len(want):]
			checkOuts(t, "what just fits", run.Outs, []impl.MemOut{{}, {Text: want}})
		}
	}
	full := impl.MemHost{Cells: []string{cellOf("a")}, Guests: []impl.MemGuest{guestOf(frameSlot(0, 0), noSlot(0))}}
	checkMemRefused(t, "there is no cell, either", full, []impl.MemOp{writeOp(0, 1, 0, ""), writeOp(0, 2, 0, ""), writeOp(0, 1, 0, "x")}, impl.ErrSize, impl.ErrNone, impl.ErrCount)
}

// A cell that is empty is taken ahead of one that would have to go, the first one first.
func TestFreeCellsFirst(t *testing.T) {
	h := impl.MemHost{Cells: []string{"", cellOf("a"), ""}, Swap: []string{""}, Guests: []impl.MemGuest{guestOf(frameSlot(1, 0), noSlot(0), noSlot(0), noSlot(0))}}
	after := changedHost(h, func(h *impl.MemHost) {
		h.Cells = []string{"x" + bytes0(15), "z" + bytes0(15), "y" + bytes0(15)}
		h.Swap = []string{cellOf("a")}
		h.Guests[0] = impl.MemGuest{Slots: []impl.MemSlot{swapSlot(0, 0), frameSlot(0, 1), frameSlot(2, 2), frameSlot(1, 3)}, Dirty: "\x0e"}
		h.Time = 3
	})
	checkMemDone(t, "three writes", h, []impl.MemOp{writeOp(0, 1, 0, "x"), writeOp(0, 2, 0, "y"), writeOp(0, 3, 0, "z")}, []impl.MemOut{{}, {}, {}}, after)
}

// fullHost has a guest ahead that stands for no cell, and slots of two guests with these Used each on its own cell.
func fullHost(places int, used ...int64) impl.MemHost {
	h := impl.MemHost{Swap: make([]string, places), Guests: []impl.MemGuest{guestOf(noSlot(0)), {}, {}}, Time: 9}
	for n, u := range used {
		h.Cells = append(h.Cells, cellOf(string(rune('a'+n))))
		g := &h.Guests[1+2*n/len(used)]
		g.Slots = append(g.Slots, frameSlot(int64(n), u))
	}
	return h
}

// takenCell is where what slot 0 of guest 0 writes goes to.
func takenCell(t *testing.T, what string, h impl.MemHost) int64 {
	t.Helper()
	run := checkMemoryRun(t, what, h, []impl.MemOp{writeOp(0, 0, 0, "x")})
	checkOuts(t, what, run.Outs, []impl.MemOut{{}})
	if len(run.Host.Guests) == 0 {
		return -1
	}
	return run.Host.Guests[0].Slots[0].At
}

func TestWhatIsTaken(t *testing.T) {
	checkNumber(t, "the least Used", takenCell(t, "the least Used", fullHost(1, 5, 4, 3, 9, 8, 7)), 2)
	checkNumber(t, "the least Used, of the last", takenCell(t, "of the last", fullHost(1, 5, 4, 3, 9, 8, 2)), 5)
	checkNumber(t, "the first guest", takenCell(t, "the first guest", fullHost(1, 5, 4, 3, 3, 8, 9)), 2)
	checkNumber(t, "the first slot", takenCell(t, "the first slot", fullHost(1, 5, 3, 3, 3, 3, 3)), 1)
	checkNumber(t, "all alike", takenCell(t, "all alike", fullHost(1, 9, 9, 9, 9)), 0)
	turned := fullHost(1, 2, 2, 2, 2)
	turned.Guests[1], turned.Guests[2] = turned.Guests[2], turned.Guests[1]
	checkNumber(t, "by guest, not by cell", takenCell(t, "by guest", turned), 2)
	turned.Guests[1].Slots[0].At, turned.Guests[1].Slots[1].At = 3, 2
	checkNumber(t, "by slot, not by cell", takenCell(t, "by slot", turned), 3)
	shared := fullHost(1, 1, 2, 3, 4)
	shared.Guests[0].Slots = append(shared.Guests[0].Slots, frameSlot(0, 0))
	checkNumber(t, "no shared one", takenCell(t, "no shared one", shared), 1)
	shared.Guests[2].Slots = append(shared.Guests[2].Slots, frameSlot(1, 0))
	checkNumber(t, "nor the next", takenCell(t, "nor the next", shared), 2)
	huge := fullHost(1, 1, 0, 1, 1, 2, 3, 4, 5)
	huge.Guests[1].Huge = []int64{0}
	checkNumber(t, "none in a huge group", takenCell(t, "none in a huge group", huge), 4)
	huge.Guests[2].Huge = []int64{0}
	huge.Cells = append(huge.Cells, cellOf("z"))
	huge.Guests[1].Slots = append(huge.Guests[1].Slots, frameSlot(8, 9))
	checkNumber(t, "the one beside the groups", takenCell(t, "beside", huge), 8)
	own := fullHost(1, 7, 7)
	own.Guests[0].Slots = append(own.Guests[0].Slots, frameSlot(2, 6))
	own.Cells = append(own.Cells, cellOf("o"))
	checkNumber(t, "one of its own guest", takenCell(t, "own", own), 2)
}

func TestWhatIsTakenGoesToTheFirstPlace(t *testing.T) {
	h := fullHost(4, 5, 4)
	h.Swap[0], h.Guests[2].Slots = cellOf("s"), append(h.Guests[2].Slots, swapSlot(0, 0))
	after := changedHost(h, func(h *impl.MemHost) {
		h.Cells[1], h.Swap[1] = "x"+bytes0(15), cellOf("b")
		h.Guests[0].Slots[0], h.Guests[0].Dirty = frameSlot(1, 10), "\x01"
		h.Guests[2].Slots[0], h.Time = swapSlot(1, 4), 10
	})
	checkMemDone(t, "the first empty place", h, []impl.MemOp{writeOp(0, 0, 0, "x")}, []impl.MemOut{{}}, after)
}

func TestNoFreeCell(t *testing.T) {
	write := []impl.MemOp{writeOp(0, 0, 0, "x")}
	checkMemRefused(t, "no place of Swap", fullHost(0, 1, 2), write, impl.ErrCount)
	used := fullHost(1, 1, 2)
	used.Swap[0], used.Guests[2].Slots = cellOf("s"), append(used.Guests[2].Slots, swapSlot(0, 0))
	checkMemRefused(t, "Swap is full", used, write, impl.ErrCount)
	checkMemRefused(t, "no cells", fullHost(1), write, impl.ErrCount)
	shared := fullHost(2, 1, 2)
	shared.Guests[2].Slots = append(shared.Guests[2].Slots, frameSlot(0, 0), frameSlot(1, 0))
	checkMemRefused(t, "all are shared", shared, write, impl.ErrCount)
	checkMemRefused(t, "all are shared, also the one written to", shared, []impl.MemOp{writeOp(1, 0, 0, "x"), writeOp(2, 2, 0, "x")}, impl.ErrCount, impl.ErrCount)
	huge := fullHost(2, 1, 2, 3, 4, 5, 6, 7, 8)
	huge.Guests[1].Huge, huge.Guests[2].Huge = []int64{0}, []int64{0}
	checkMemRefused(t, "all are huge", huge, write, impl.ErrCount)
	huge.Swap[1], huge.Guests[0].Slots[0] = cellOf("s"), swapSlot(1, 3)
	checkMemRefused(t, "all are huge, and it is in Swap", huge, []impl.MemOp{writeOp(0, 0, 0, "x"), readOp(0, 0)}, impl.ErrCount, impl.ErrCount)
	shared.Swap[0], shared.Guests[0].Slots[0] = cellOf("s"), swapSlot(0, 3)
	checkMemRefused(t, "all are shared, and it is in Swap", shared, []impl.MemOp{readOp(0, 0), writeOp(0, 0, 0, "x")}, impl.ErrCount, impl.ErrCount)
	none := impl.MemHost{Swap: []string{cellOf("s")}, Guests: []impl.MemGuest{guestOf(swapSlot(0, 0))}}
	checkMemRefused(t, "no cells, and it is in Swap", none, []impl.MemOp{readOp(0, 0), writeOp(0, 0, 0, "x")}, impl.ErrCount, impl.ErrCount)
	read := changedHost(fullHost(0, 1, 2), func(h *impl.MemHost) { h.Guests[0].Slots[0].Used, h.Time = 10, 10 })
	checkMemDone(t, "to read nothing needs none", fullHost(0, 1, 2), []impl.MemOp{readOp(0, 0)}, []impl.MemOut{{Text: bytes0(16)}}, read)
}

// Where Swap is full, what is taken goes to the place that the slot itself leaves.
func TestPlacesThatAreLeft(t *testing.T) {
	h := fullHost(2, 4, 3)
	h.Swap = []string{cellOf("s"), cellOf("t")}
	h.Guests[0].Slots = []impl.MemSlot{swapSlot(1, 0), swapSlot(0, 0)}
	after := changedHost(h, func(h *impl.MemHost) {
		h.Cells[1], h.Swap[1] = cellOf("t"), cellOf("b")
		h.Guests[0].Slots[0], h.Guests[2].Slots[0], h.Time = frameSlot(1, 10), swapSlot(1, 3), 10
	})
	checkMemDone(t, "read", h, []impl.MemOp{readOp(0, 0)}, []impl.MemOut{{Text: cellOf("t")}}, after)
	wrote := changedHost(after, func(h *impl.MemHost) { h.Cells[1], h.Guests[0].Dirty = "ttttttttttttttt!", "\x01" })
	checkMemDone(t, "written", h, []impl.MemOp{writeOp(0, 0, 15, "!")}, []impl.MemOut{{}}, wrote)
	h.Swap = append(h.Swap, "")
	after.Swap = append(after.Swap, "")
	checkMemDone(t, "ahead of a place behind it", h, []impl.MemOp{readOp(0, 0)}, []impl.MemOut{{Text: cellOf("t")}}, after)
	h.Swap = []string{"", cellOf("t"), cellOf("s")}
	h.Guests[0].Slots[1].At = 2
	ahead := changedHost(h, func(h *impl.MemHost) {
		h.Cells[1], h.Swap = cellOf("t"), []string{cellOf("b"), "", cellOf("s")}
		h.Guests[0].Slots[0], h.Guests[2].Slots[0], h.Time = frameSlot(1, 10), swapSlot(0, 3), 10
	})
	checkMemDone(t, "behind a place ahead of it", h, []impl.MemOp{readOp(0, 0)}, []impl.MemOut{{Text: cellOf("t")}}, ahead)
}

func TestWritesToSharedCells(t *testing.T) {
	h := impl.MemHost{Cells: []string{cellOf("s"), cellOf("v")}, Swap: []string{""}, Guests: []impl.MemGuest{guestOf(frameSlot(0, 1), frameSlot(0, 2)), guestOf(frameSlot(1, 3))}, Time: 3}
	after := changedHost(h, func(h *impl.MemHost) {
		h.Cells[1], h.Swap[0] = "sXssssssssssssss", cellOf("v")
		h.Guests[0].Slots[0], h.Guests[0].Dirty, h.Guests[1].Slots[0], h.Time = frameSlot(1, 4), "\x01", swapSlot(0, 3), 4
	})
	checkMemDone(t, "where one must be taken", h, []impl.MemOp{writeOp(0, 0, 1, "X")}, []impl.MemOut{{}}, after)
	none := copyHost(h)
	none.Swap = nil
	checkMemRefused(t, "where there is none", none, []impl.MemOp{writeOp(0, 0, 1, "X"), writeOp(0, 1, 1, "X")}, impl.ErrCount, impl.ErrCount)
	alone := copyHost(h)
	alone.Cells, alone.Guests[1].Slots = alone.Cells[:1], nil
	checkMemRefused(t, "where there is no other", alone, []impl.MemOp{writeOp(0, 0, 1, "X")}, impl.ErrCount)
	read := changedHost(alone, func(h *impl.MemHost) { h.Guests[0].Slots[0].Used, h.Time = 4, 4 })
	checkMemDone(t, "read it needs none", alone, []impl.MemOp{readOp(0, 0)}, []impl.MemOut{{Text: cellOf("s")}}, read)
}

func TestMmBalloon(t *testing.T) {
	h := someHost()
	for slot, after := range []impl.MemHost{
		changedHost(h, func(h *impl.MemHost) { h.Guests[0].Slots[0] = noSlot(3) }),
		changedHost(h, func(h *impl.MemHost) { h.Guests[0].Slots[1], h.Cells[1] = noSlot(5), "" }),
		changedHost(h, func(h *impl.MemHost) { h.Guests[0].Slots[2], h.Swap[1] = noSlot(0), "" }),
		h,
	} {
		after.Time = 6
		freed := []int64{0, 1, 0, 0}[slot]
		checkMemDone(t, fmt.Sprintf("slot %d", slot), h, []impl.MemOp{memOp(impl.MmBalloon, 0, int64(slot))}, []impl.MemOut{{Num: freed}}, after)
		read := checkMemoryRun(t, "read behind it", h, []impl.MemOp{memOp(impl.MmBalloon, 0, int64(slot)), readOp(0, int64(slot)), memOp(impl.MmLog, 0, 0)})
		checkOuts(t, "read behind it", read.Outs, []impl.MemOut{{Num: freed}, {Text: bytes0(16)}, {Text: "\x0a"}})
	}
	last := checkMemoryRun(t, "both of a shared one", h, []impl.MemOp{memOp(impl.MmBalloon, 0, 0), memOp(impl.MmBalloon, 1, 0), memOp(impl.MmBalloon, 1, 0)})
	checkOuts(t, "both of a shared one", last.Outs, []impl.MemOut{{}, {Num: 1}, {}})
}

func TestMmSwap(t *testing.T) {
	h := someHost()
	out := changedHost(h, func(h *impl.MemHost) {
		h.Guests[0].Slots[1], h.Cells[1], h.Swap[0], h.Time = swapSlot(0, 5), "", cellOf("b"), 6
	})
	checkMemDone(t, "a cell", h, []impl.MemOp{memOp(impl.MmSwap, 0, 1)}, []impl.MemOut{{}}, out)
	checkMemRefused(t, "a shared one, one in Swap, nothing", h, []impl.MemOp{memOp(impl.MmSwap, 0, 0), memOp(impl.MmSwap, 1, 0), memOp(impl.MmSwap, 0, 2), memOp(impl.MmSwap, 0, 3)}, impl.ErrState, impl.ErrState, impl.ErrState, impl.ErrState)
	checkMemRefused(t, "no place is left", out, []impl.MemOp{memOp(impl.MmSwap, 1, 1), memOp(impl.MmSwap, 0, 0), memOp(impl.MmSwap, 0, 3)}, impl.ErrCount, impl.ErrState, impl.ErrState)
	h.Swap = append(h.Swap, "", "")
	out.Swap = append(out.Swap, "", "")
	checkMemDone(t, "the first place", h, []impl.MemOp{memOp(impl.MmSwap, 0, 1)}, []impl.MemOut{{}}, out)
	empty := impl.MemHost{Cells: []string{cellOf("a")}, Guests: []impl.MemGuest{guestOf(frameSlot(0, 0), noSlot(0))}}
	checkMemRefused(t, "no Swap", empty, []impl.MemOp{memOp(impl.MmSwap, 0, 0), memOp(impl.MmSwap, 0, 1)}, impl.ErrCount, impl.ErrState)
}

// A slot that leaves its huge group ends it; one that cannot does not.
func TestSlotsThatLeaveHugeGroups(t *testing.T) {
	h := hugeHost()
	for slot := range int64(12) {
		huge := map[int64][]int64{0: {2}, 1: {0, 2}, 2: {0}}[slot/4]
		at := h.Guests[0].Slots[slot].At
		gone := changedHost(h, func(h *impl.MemHost) {
			h.Guests[0].Slots[slot] = noSlot(h.Guests[0].Slots[slot].Used)
			h.Cells[at], h.Guests[0].Huge, h.Time = "", huge, 10
		})
		checkMemDone(t, fmt.Sprintf("balloon %d", slot), h, []impl.MemOp{memOp(impl.MmBalloon, 0, slot)}, []impl.MemOut{{Num: 1}}, gone)
		gone.Guests[0].Slots[slot].Kind, gone.Swap[0] = impl.SlotSwap, h.Cells[at]
		checkMemDone(t, fmt.Sprintf("swap %d", slot), h, []impl.MemOp{memOp(impl.MmSwap, 0, slot)}, []impl.MemOut{{}}, gone)
	}
	h.Swap = nil
	checkMemRefused(t, "no place", h, []impl.MemOp{memOp(impl.MmSwap, 0, 0), memOp(impl.MmSwap, 0, 11)}, impl.ErrCount, impl.ErrCount)
	wrote := changedHost(h, func(h *impl.MemHost) {
		h.Cells[9], h.Guests[0].Slots[1].Used, h.Guests[0].Dirty, h.Time = "bbHbbbbbbbbbbbbb", 10, "\x02", 11
		h.Guests[0].Slots[3].Used = 11
	})
	checkMemDone(t, "read and written it stays", h, []impl.MemOp{writeOp(0, 1, 2, "H"), readOp(0, 3)}, []impl.MemOut{{}, {Text: cellOf("d")}}, wrote)
}

func TestMmShare(t *testing.T) {
	x, y, z := cellOf("x"), cellOf("y"), cellOf("z")
	h := impl.MemHost{
		Cells: []string{z, x, y, "", x, y, x, "", z[:15] + "y"}, Swap: []string{x},
		Guests: []impl.MemGuest{guestOf(frameSlot(4, 1), frameSlot(5, 2), frameSlot(0, 1), swapSlot(0, 1), frameSlot(6, 1)), guestOf(frameSlot(1, 0), frameSlot(4, 2), frameSlot(2, 1), noSlot(0), frameSlot(8, 0))},
		Time:   2,
	}
	after := changedHost(h, func(h *impl.MemHost) {
		h.Cells = []string{z, x, y, "", "", "", "", "", z[:15] + "y"}
		h.Guests[0].Slots = []impl.MemSlot{frameSlot(1, 1), frameSlot(2, 2), frameSlot(0, 1), swapSlot(0, 1), frameSlot(1, 1)}
		h.Guests[1].Slots = []impl.MemSlot{frameSlot(1, 0), frameSlot(1, 2), frameSlot(2, 1), noSlot(0), frameSlot(8, 0)}
		h.Time = 3
	})
	checkMemDone(t, "cells alike", h, []impl.MemOp{memOp(impl.MmShare, 0, 0)}, []impl.MemOut{{Num: 3}}, after)
	after.Time = 4
	checkMemDone(t, "and again", h, []impl.MemOp{memOp(impl.MmShare, 0, 0), memOp(impl.MmShare, 0, 0)}, []impl.MemOut{{Num: 3}, {}}, after)
	unlike := changedHost(someHost(), func(h *impl.MemHost) { h.Time = 6 })
	checkMemDone(t, "none alike", someHost(), []impl.MemOp{memOp(impl.MmShare, 0, 0)}, []impl.MemOut{{}}, unlike)
	nothing := impl.MemHost{Cells: []string{bytes0(16), "", ""}, Guests: []impl.MemGuest{guestOf(noSlot(0), frameSlot(0, 0), noSlot(0))}}
	checkMemDone(t, "bytes 0 are not nothing", nothing, []impl.MemOp{memOp(impl.MmShare, 0, 0)}, []impl.MemOut{{}}, changedHost(nothing, func(h *impl.MemHost) { h.Time = 1 }))
}

// Cells in huge groups are neither the first one of several nor one of the others.
func TestMmShareWithHugeGroups(t *testing.T) {
	h := hugeHost()
	for at, text := range h.Cells {
		if text != "" {
			h.Cells[at] = cellOf("s")
		}
	}
	after := changedHost(h, func(h *impl.MemHost) {
		h.Cells[1], h.Cells[2], h.Cells[3], h.Cells[17] = "", "", "", ""
		for _, slot := range []int{4, 5, 6, 7, 12, 13} {
			h.Guests[0].Slots[slot].At = 0
		}
		h.Time = 10
	})
	checkMemDone(t, "four of thirteen", h, []impl.MemOp{memOp(impl.MmShare, 0, 0)}, []impl.MemOut{{Num: 4}}, after)
	ahead := impl.MemHost{Cells: slices.Repeat([]string{cellOf("s")}, 6), Guests: []impl.MemGuest{guestOf(frameSlot(5, 0), frameSlot(4, 0)), {Huge: []int64{0}}}}
	for n := range int64(4) {
		ahead.Guests[1].Slots = append(ahead.Guests[1].Slots, frameSlot(n, 0))
	}
	first := changedHost(ahead, func(h *impl.MemHost) { h.Cells[5], h.Guests[0].Slots[0].At, h.Time = "", 4, 1 })
	checkMemDone(t, "behind a group", ahead, []impl.MemOp{memOp(impl.MmShare, 0, 0)}, []impl.MemOut{{Num: 1}}, first)
	all := changedHost(first, func(h *impl.MemHost) {
		h.Cells = []string{cellOf("s"), "", "", "", "", ""}
		h.Guests[0].Slots[0].At, h.Guests[0].Slots[1].At = 0, 0
		for n := range h.Guests[1].Slots {
			h.Guests[1].Slots[n].At = 0
		}
		h.Guests[1].Huge, h.Time = nil, 3
	})
	checkMemDone(t, "and split", ahead, []impl.MemOp{memOp(impl.MmShare, 0, 0), memOp(impl.MmSplit, 1, 0), memOp(impl.MmShare, 0, 0)}, []impl.MemOut{{Num: 1}, {}, {Num: 4}}, all)
}

func TestMmHuge(t *testing.T) {
	h := hugeHost()
	joined := changedHost(h, func(h *impl.MemHost) {
		for n, at := range []int64{0, 2, 1, 3} {
			h.Cells[12+n], h.Cells[at] = h.Cells[at], ""
			h.Guests[0].Slots[4+n].At = int64(12 + n)
		}
		h.Guests[0].Huge, h.Time = []int64{0, 1, 2}, 10
	})
	checkMemDone(t, "between two groups", h, []impl.MemOp{memOp(impl.MmHuge, 0, 1)}, []impl.MemOut{{}}, joined)
	checkMemRefused(t, "huge already", joined, []impl.MemOp{memOp(impl.MmHuge, 0, 1), memOp(impl.MmHuge, 0, 0), memOp(impl.MmHuge, 0, 2)}, impl.ErrState, impl.ErrState, impl.ErrState)
	again := changedHost(joined, func(h *impl.MemHost) {
		for n := range 4 {
			h.Cells[n], h.Cells[12+n] = h.Cells[12+n], ""
			h.Guests[0].Slots[4+n].At = int64(n)
		}
		h.Time = 12
	})
	checkMemDone(t, "split and joined it goes elsewhere", joined, []impl.MemOp{memOp(impl.MmSplit, 0, 1), memOp(impl.MmHuge, 0, 1)}, []impl.MemOut{{}, {}}, again)
	for _, at := range []int{12, 13, 14, 15} {
		full := changedHost(h, func(h *impl.MemHost) {
			h.Cells[at], h.Guests[0].Slots[13] = cellOf("w"), frameSlot(int64(at), 0)
		})
		checkMemRefused(t, fmt.Sprintf("cell %d is not empty", at), full, []impl.MemOp{memOp(impl.MmHuge, 0, 1)}, impl.ErrCount)
	}
	short := changedHost(h, func(h *impl.MemHost) { h.Cells = append(h.Cells[:12], "", "", cellOf("n")) })
	short.Guests[0].Slots[12].At, short.Guests[0].Slots[13].At = 14, 14
	checkMemRefused(t, "too few cells", short, []impl.MemOp{memOp(impl.MmHuge, 0, 1)}, impl.ErrCount)
}

// Cells in a row are no help to a group that stands there itself, nor those that begin elsewhere.
func TestMmHugeWithoutARow(t *testing.T) {
	four := impl.MemHost{Cells: []string{cellOf("a"), cellOf("b"), cellOf("c"), cellOf("d")}, Guests: []impl.MemGuest{guestOf(frameSlot(0, 0), frameSlot(1, 0), frameSlot(2, 0), frameSlot(3, 0))}}
	checkMemRefused(t, "its own cells", four, []impl.MemOp{memOp(impl.MmHuge, 0, 0)}, impl.ErrCount)
	for more := range 4 {
		h := copyHost(four)
		h.Cells = append(h.Cells, make([]string, more)...)
		checkMemRefused(t, fmt.Sprintf("and %d more", more), h, []impl.MemOp{memOp(impl.MmHuge, 0, 0)}, impl.ErrCount)
	}
	h := impl.MemHost{Cells: []string{cellOf("a"), "", "", "", "", cellOf("b"), cellOf("c"), cellOf("d"), "", "", "", ""}, Guests: []impl.MemGuest{guestOf(frameSlot(7, 0), frameSlot(6, 0), frameSlot(5, 0), frameSlot(0, 0))}}
	after := impl.MemHost{Cells: []string{"", "", "", "", "", "", "", "", cellOf("d"), cellOf("c"), cellOf("b"), cellOf("a")}, Guests: []impl.MemGuest{{Slots: []impl.MemSlot{frameSlot(8, 0), frameSlot(9, 0), frameSlot(10, 0), frameSlot(11, 0)}, Huge: []int64{0}}}, Time: 1}
	checkMemDone(t, "not from 1 on", h, []impl.MemOp{memOp(impl.MmHuge, 0, 0)}, []impl.MemOut{{}}, after)
	h.Cells = append(h.Cells[:11:11], cellOf("z"))
	h.Guests = append(h.Guests, guestOf(frameSlot(11, 0)))
	checkMemRefused(t, "none from a multiple on", h, []impl.MemOp{memOp(impl.MmHuge, 0, 0)}, impl.ErrCount)
	h.Cells[11], h.Guests = "", h.Guests[:1]
	h.Cells = append(h.Cells, "", "", "", "")
	after.Cells = append(after.Cells, "", "", "", "")
	checkMemDone(t, "the first row of two", h, []impl.MemOp{memOp(impl.MmHuge, 0, 0)}, []impl.MemOut{{}}, after)
}

func TestMmHugeOfOtherSlots(t *testing.T) {
	for slot := range 4 {
		h := impl.MemHost{Cells: []string{cellOf("a"), cellOf("b"), cellOf("c"), cellOf("d"), "", "", "", ""}, Swap: []string{""}, Guests: []impl.MemGuest{guestOf(frameSlot(0, 0), frameSlot(1, 0), frameSlot(2, 0), frameSlot(3, 0))}}
		op := []impl.MemOp{memOp(impl.MmHuge, 0, 0)}
		out := changedHost(h, func(h *impl.MemHost) {
			h.Swap[0], h.Cells[slot], h.Guests[0].Slots[slot] = h.Cells[slot], "", swapSlot(0, 0)
		})
		checkMemRefused(t, fmt.Sprintf("slot %d in Swap", slot), out, op, impl.ErrState)
		none := changedHost(h, func(h *impl.MemHost) { h.Cells[slot], h.Guests[0].Slots[slot] = "", noSlot(0) })
		checkMemRefused(t, fmt.Sprintf("slot %d of nothing", slot), none, op, impl.ErrState)
		shared := changedHost(h, func(h *impl.MemHost) { h.Guests = append(h.Guests, guestOf(frameSlot(int64(slot), 0))) })
		checkMemRefused(t, fmt.Sprintf("slot %d is shared", slot), shared, op, impl.ErrState)
		twice := changedHost(h, func(h *impl.MemHost) {
			h.Cells[slot], h.Guests[0].Slots[slot].At = "", int64(slot+1)%4
		})
		checkMemRefused(t, fmt.Sprintf("slot %d is shared within", slot), twice, op, impl.ErrState)
		full := changedHost(none, func(h *impl.MemHost) { h.Cells = h.Cells[:4] })
		checkMemRefused(t, fmt.Sprintf("slot %d of nothing, and no row", slot), full, op, impl.ErrState)
	}
}

func TestMmSplit(t *testing.T) {
	h := hugeHost()
	split := func(huge ...int64) impl.MemHost {
		return changedHost(h, func(h *impl.MemHost) { h.Guests[0].Huge, h.Time = huge, 10 })
	}
	checkMemDone(t, "the first", h, []impl.MemOp{memOp(impl.MmSplit, 0, 0)}, []impl.MemOut{{}}, split(2))
	checkMemDone(t, "the last", h, []impl.MemOp{memOp(impl.MmSplit, 0, 2)}, []impl.MemOut{{}}, split(0))
	checkMemRefused(t, "one that is not huge", h, []impl.MemOp{memOp(impl.MmSplit, 0, 1)}, impl.ErrState)
	checkMemRefused(t, "again", split(2), []impl.MemOp{memOp(impl.MmSplit, 0, 0)}, impl.ErrState)
	other := impl.MemHost{Guests: []impl.MemGuest{{Slots: make([]impl.MemSlot, 4)}}}
	checkMemRefused(t, "nothing", other, []impl.MemOp{memOp(impl.MmSplit, 0, 0)}, impl.ErrState)
}

func TestMmLog(t *testing.T) {
	h := someHost()
	after := changedHost(h, func(h *impl.MemHost) { h.Guests[0].Dirty, h.Time = "", 8 })
	checkMemDone(t, "twice, and of another", h, []impl.MemOp{memOp(impl.MmLog, 0, 0), memOp(impl.MmLog, 0, 0), memOp(impl.MmLog, 1, 0)}, []impl.MemOut{{Text: "\x0a"}, {}, {}}, after)
	h.Guests[1].Dirty = "\x00\x00\x00"
	checkMemDone(t, "bytes 0 are told", h, []impl.MemOp{memOp(impl.MmLog, 0, 0), memOp(impl.MmLog, 1, -1), memOp(impl.MmLog, 1, 0)}, []impl.MemOut{{Text: "\x0a"}, {Text: "\x00\x00\x00"}, {}}, after)
}

func TestTimeOfRuns(t *testing.T) {
	h := someHost()
	for _, count := range []int{0, 1, 999, 1000} {
		ops := slices.Repeat([]impl.MemOp{memOp(9, 0, 0)}, count)
		checkMemRefused(t, fmt.Sprintf("%d ops", count), h, ops, slices.Repeat([]int64{impl.ErrForm}, count)...)
	}
	many := slices.Repeat([]impl.MemOp{memOp(impl.MmLog, 0, 0)}, 1001)
	checkAlike(t, "one more", impl.RunMemory(h, many), impl.MemRun{Code: impl.ErrSize})
	checkAlike(t, "ahead of all else", impl.RunMemory(impl.MemHost{}, many), impl.MemRun{Code: impl.ErrSize})
	checkAlike(t, "not right", impl.RunMemory(impl.MemHost{}, nil), impl.MemRun{Code: impl.ErrForm})
	for _, count := range []int64{0, 1, 2, 1000} {
		ops := slices.Repeat([]impl.MemOp{readOp(0, 0)}, int(count))
		late := changedHost(h, func(h *impl.MemHost) { h.Time = 1<<40 - count })
		run := checkMemoryRun(t, "to the end", late, ops)
		checkNumber(t, "to the end", run.Host.Time, 1<<40)
		late.Time++
		checkAlike(t, "beyond the end", impl.RunMemory(late, ops), impl.MemRun{Code: impl.ErrForm})
		refused := slices.Repeat([]impl.MemOp{memOp(9, 0, 0)}, int(count))
		checkAlike(t, "beyond the end, of refused ones", impl.RunMemory(late, refused), impl.MemRun{Code: impl.ErrForm})
	}
}

// What a run answers is its own: changed, it changes nothing of what was handed in.
func TestMemoryAnswersAreNew(t *testing.T) {
	h := hugeHost()
	was := hostText(h)
	for _, ops := range [][]impl.MemOp{nil, {memOp(impl.MmHuge, 0, 1), memOp(impl.MmSplit, 0, 0), memOp(impl.MmShare, 0, 0), memOp(impl.MmSwap, 0, 5), memOp(impl.MmBalloon, 0, 11)}} {
		run := impl.RunMemory(h, ops)
		run.Host.Cells[17], run.Host.Swap[0] = "x", "y"
		run.Host.Guests[0].Slots[0].Used = 99
		if len(run.Host.Guests[0].Huge) > 0 {
			run.Host.Guests[0].Huge[0] = 99
		}
		run.Host.Guests[0].Dirty = "z"
		texts := impl.CellsOf(h, 0)
		texts[0] = "w"
		checkText(t, "what was handed in", hostText(h), was)
	}
}

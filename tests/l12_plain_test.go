package tests

import (
	"cmp"
	"fmt"
	"math/rand"
	"slices"
	"strings"
	"testing"

	"loop.example/g00038/impl"
)

// cellOf is a cell's text of one letter.
func cellOf(letter string) string { return strings.Repeat(letter, 16) }

func frameSlot(at int64, used int64) impl.MemSlot { return impl.MemSlot{Kind: 1, At: at, Used: used} }

func swapSlot(at int64, used int64) impl.MemSlot { return impl.MemSlot{Kind: 2, At: at, Used: used} }

func noSlot(used int64) impl.MemSlot { return impl.MemSlot{Used: used} }

func guestOf(slots ...impl.MemSlot) impl.MemGuest { return impl.MemGuest{Slots: slots} }

// hostText tells a host with its texts quoted, an empty list and none alike.
func hostText(h impl.MemHost) string {
	text := fmt.Sprintf("cells %q swap %q time %d", h.Cells, h.Swap, h.Time)
	for _, g := range h.Guests {
		text += fmt.Sprintf("\n  slots %v dirty %q huge %v", g.Slots, g.Dirty, g.Huge)
	}
	return text
}

func sameHost(a impl.MemHost, b impl.MemHost) bool {
	return slices.Equal(a.Cells, b.Cells) && slices.Equal(a.Swap, b.Swap) && a.Time == b.Time && slices.EqualFunc(a.Guests, b.Guests, func(a impl.MemGuest, b impl.MemGuest) bool {
		return slices.Equal(a.Slots, b.Slots) && a.Dirty == b.Dirty && slices.Equal(a.Huge, b.Huge)
	})
}

func checkHost(t *testing.T, what string, got impl.MemHost, want impl.MemHost) {
	t.Helper()
	if !sameHost(got, want) {
		t.Errorf("%s: got %s\nwant %s", what, hostText(got), hostText(want))
	}
}

func checkOuts(t *testing.T, what string, got []impl.MemOut, want []impl.MemOut) {
	t.Helper()
	if !slices.Equal(got, want) {
		t.Errorf("%s: got %+v\nwant %+v", what, got, want)
	}
}

func copyHost(h impl.MemHost) impl.MemHost {
	h.Cells, h.Swap, h.Guests = slices.Clone(h.Cells), slices.Clone(h.Swap), slices.Clone(h.Guests)
	for at := range h.Guests {
		h.Guests[at].Slots = slices.Clone(h.Guests[at].Slots)
		h.Guests[at].Huge = slices.Clone(h.Guests[at].Huge)
	}
	return h
}

// plainUsers counts the slots of a kind that lead to at.
func plainUsers(h impl.MemHost, kind int64, at int64) int {
	users := 0
	for _, g := range h.Guests {
		for _, s := range g.Slots {
			if s.Kind == kind && s.At == at {
				users++
			}
		}
	}
	return users
}

func plainSlotRight(h impl.MemHost, s impl.MemSlot) bool {
	texts := map[int64][]string{0: {"nothing"}, 1: h.Cells, 2: h.Swap}[s.Kind]
	return among(s.At, 0, int64(len(texts))-1) && texts[s.At] != "" && among(s.Used, 0, h.Time)
}

func plainGroupRight(h impl.MemHost, g impl.MemGuest, group int64) bool {
	if !among(group, 0, 7) || group*4+3 >= int64(len(g.Slots)) {
		return false
	}
	from := g.Slots[group*4].At
	right := from%4 == 0
	for n := range int64(4) {
		right = right && g.Slots[group*4+n].Kind == 1 && g.Slots[group*4+n].At == from+n && plainUsers(h, 1, from+n) == 1
	}
	return right
}

func plainGuestRight(h impl.MemHost, g impl.MemGuest) bool {
	if len(g.Slots) > 32 || len(g.Dirty) > 4 {
		return false
	}
	right := true
	for _, s := range g.Slots {
		right = right && plainSlotRight(h, s)
	}
	for n := range 8 * len(g.Dirty) {
		on := g.Dirty[n/8]>>(n%8)&1 == 1
		right = right && (!on || n < len(g.Slots))
	}
	for n, group := range g.Huge {
		right = right && plainGroupRight(h, g, group) && (n == 0 || g.Huge[n-1] < group)
	}
	return right
}

// plainHostRight is what chapter 13 says of MemHostFault, said once more.
func plainHostRight(h impl.MemHost) bool {
	right := len(h.Cells) <= 64 && len(h.Swap) <= 64 && among(int64(len(h.Guests)), 1, 8) && among(h.Time, 0, 1<<40)
	for at, text := range h.Cells {
		right = right && (text == "" || len(text) == 16 && plainUsers(h, 1, int64(at)) > 0)
	}
	for at, text := range h.Swap {
		right = right && (text == "" || len(text) == 16 && plainUsers(h, 2, int64(at)) == 1)
	}
	for _, g := range h.Guests {
		right = right && plainGuestRight(h, g)
	}
	return right
}

func plainReads(h impl.MemHost, s impl.MemSlot) string {
	return map[int64][]string{0: {bytes0(16)}, 1: h.Cells, 2: h.Swap}[s.Kind][s.At]
}

// plainCells is what chapter 13 says of CellsOf, said once more.
func plainCells(h impl.MemHost, guest int64) []string {
	var texts []string
	if plainHostRight(h) && among(guest, 0, int64(len(h.Guests))-1) {
		for _, s := range h.Guests[guest].Slots {
			texts = append(texts, plainReads(h, s))
		}
	}
	return texts
}

// plainToTake are the slots a cell may be taken from, the first one first, as Used, guest and slot.
func plainToTake(h impl.MemHost) [][]int64 {
	var all [][]int64
	for g, guest := range h.Guests {
		for n, s := range guest.Slots {
			if s.Kind == 1 && plainUsers(h, 1, s.At) == 1 && !slices.Contains(guest.Huge, int64(n/4)) {
				all = append(all, []int64{s.Used, int64(g), int64(n)})
			}
		}
	}
	slices.SortFunc(all, func(a []int64, b []int64) int { return slices.Compare(a, b) })
	return all
}

// plainFreeCell is -1 where there is none; what it changes then counts for nothing.
func plainFreeCell(h impl.MemHost) int64 {
	if at := slices.Index(h.Cells, ""); at >= 0 {
		return int64(at)
	}
	place := slices.Index(h.Swap, "")
	all := plainToTake(h)
	if place < 0 || len(all) == 0 {
		return -1
	}
	s := &h.Guests[all[0][1]].Slots[all[0][2]]
	at := s.At
	h.Swap[place] = h.Cells[at]
	s.Kind, s.At = 2, int64(place)
	return at
}

// plainTouch does MmRead and MmWrite.
func plainTouch(h impl.MemHost, op impl.MemOp) impl.MemOut {
	g := &h.Guests[op.Guest]
	s := &g.Slots[op.Slot]
	text := plainReads(h, *s)
	if op.Kind == 2 && (op.Text == "" || op.At < 0 || op.At > 16 || op.At+int64(len(op.Text)) > 16) {
		return impl.MemOut{Code: impl.ErrSize}
	}
	needs := s.Kind == 2 || op.Kind == 2 && (s.Kind == 0 || plainUsers(h, 1, s.At) > 1)
	if s.Kind == 2 {
		h.Swap[s.At] = ""
	}
	if needs {
		at := plainFreeCell(h)
		if at < 0 {
			return impl.MemOut{Code: impl.ErrCount}
		}
		h.Cells[at] = text
		s.Kind, s.At = 1, at
	}
	s.Used = h.Time
	if op.Kind == 1 {
		return impl.MemOut{Text: text}
	}
	h.Cells[s.At] = text[:op.At] + op.Text + text[op.At+int64(len(op.Text)):]
	bits := append([]byte(g.Dirty), make([]byte, max(0, int(op.Slot)/8+1-len(g.Dirty)))...)
	bits[op.Slot/8] |= 1 << (op.Slot % 8)
	g.Dirty = string(bits)
	return impl.MemOut{}
}

// plainLeave does MmBalloon and MmSwap.
func plainLeave(h impl.MemHost, op impl.MemOp) impl.MemOut {
	g := &h.Guests[op.Guest]
	s := &g.Slots[op.Slot]
	own := s.Kind == 1 && plainUsers(h, 1, s.At) == 1
	place := int64(slices.Index(h.Swap, ""))
	if op.Kind == 4 && !own {
		return impl.MemOut{Code: impl.ErrState}
	}
	if op.Kind == 4 && place < 0 {
		return impl.MemOut{Code: impl.ErrCount}
	}
	out := impl.MemOut{}
	text := plainReads(h, *s)
	if own {
		h.Cells[s.At] = ""
		out.Num = 1
	}
	if s.Kind == 2 {
		h.Swap[s.At] = ""
	}
	s.Kind, s.At = 0, 0
	if op.Kind == 4 {
		h.Swap[place] = text
		s.Kind, s.At, out.Num = 2, place, 0
	}
	g.Huge = slices.DeleteFunc(g.Huge, func(group int64) bool { return group == op.Slot/4 })
	return out
}

func plainInHuge(h impl.MemHost, at int64) bool {
	for _, g := range h.Guests {
		for n, s := range g.Slots {
			if s.Kind == 1 && s.At == at && slices.Contains(g.Huge, int64(n/4)) {
				return true
			}
		}
	}
	return false
}

func plainShare(h impl.MemHost) impl.MemOut {
	out := impl.MemOut{}
	for first := range h.Cells {
		for other := first + 1; other < len(h.Cells); other++ {
			alike := h.Cells[first] != "" && h.Cells[first] == h.Cells[other]
			if !alike || plainInHuge(h, int64(first)) || plainInHuge(h, int64(other)) {
				continue
			}
			for _, g := range h.Guests {
				for n := range g.Slots {
					if g.Slots[n].Kind == 1 && g.Slots[n].At == int64(other) {
						g.Slots[n].At = int64(first)
					}
				}
			}
			h.Cells[other] = ""
			out.Num++
		}
	}
	return out
}

func plainJoin(h impl.MemHost, op impl.MemOp) impl.MemOut {
	g := &h.Guests[op.Guest]
	slots := g.Slots[op.Slot*4 : op.Slot*4+4]
	wrong := slices.Contains(g.Huge, op.Slot)
	for _, s := range slots {
		wrong = wrong || s.Kind != 1 || plainUsers(h, 1, s.At) != 1
	}
	if wrong {
		return impl.MemOut{Code: impl.ErrState}
	}
	for from := 0; from+4 <= len(h.Cells); from += 4 {
		if strings.Join(h.Cells[from:from+4], "") != "" {
			continue
		}
		for n := range slots {
			h.Cells[from+n] = h.Cells[slots[n].At]
			h.Cells[slots[n].At] = ""
			slots[n].At = int64(from + n)
		}
		g.Huge = append(g.Huge, op.Slot)
		slices.SortFunc(g.Huge, cmp.Compare[int64])
		return impl.MemOut{}
	}
	return impl.MemOut{Code: impl.ErrCount}
}

func plainSplit(h impl.MemHost, op impl.MemOp) impl.MemOut {
	g := &h.Guests[op.Guest]
	at := slices.Index(g.Huge, op.Slot)
	if at < 0 {
		return impl.MemOut{Code: impl.ErrState}
	}
	g.Huge = slices.Delete(g.Huge, at, at+1)
	return impl.MemOut{}
}

func plainNames(h impl.MemHost, op impl.MemOp) bool {
	if op.Kind == 5 || !among(op.Guest, 0, int64(len(h.Guests))-1) {
		return op.Kind == 5
	}
	slots := int64(len(h.Guests[op.Guest].Slots))
	switch op.Kind {
	case 6, 7:
		return among(op.Slot, 0, slots/4-1)
	case 8:
		return true
	}
	return among(op.Slot, 0, slots-1)
}

func plainMemoryOp(h impl.MemHost, op impl.MemOp) impl.MemOut {
	if !among(op.Kind, 1, 8) {
		return impl.MemOut{Code: impl.ErrForm}
	}
	if !plainNames(h, op) {
		return impl.MemOut{Code: impl.ErrNone}
	}
	switch op.Kind {
	case 1, 2:
		return plainTouch(h, op)
	case 3, 4:
		return plainLeave(h, op)
	case 5:
		return plainShare(h)
	case 6:
		return plainJoin(h, op)
	case 7:
		return plainSplit(h, op)
	}
	out := impl.MemOut{Text: h.Guests[op.Guest].Dirty}
	h.Guests[op.Guest].Dirty = ""
	return out
}

// plainMemory is what chapter 13 says of RunMemory, said once more; of an op with a code, what it did is thrown away.
func plainMemory(h impl.MemHost, ops []impl.MemOp) impl.MemRun {
	if len(ops) > 1000 {
		return impl.MemRun{Code: impl.ErrSize}
	}
	if !plainHostRight(h) || h.Time+int64(len(ops)) > 1<<40 {
		return impl.MemRun{Code: impl.ErrForm}
	}
	run := impl.MemRun{Host: copyHost(h)}
	for _, op := range ops {
		run.Host.Time++
		done := copyHost(run.Host)
		out := plainMemoryOp(done, op)
		if out.Code == impl.OK {
			run.Host = done
		}
		run.Outs = append(run.Outs, out)
	}
	return run
}

// checkMemoryRun holds a run against the plain one, and what was handed in against what it was.
func checkMemoryRun(t *testing.T, what string, h impl.MemHost, ops []impl.MemOp) impl.MemRun {
	t.Helper()
	host, asked := copyHost(h), slices.Clone(ops)
	want := plainMemory(h, ops)
	got := impl.RunMemory(h, ops)
	checkNumber(t, what+": code", got.Code, want.Code)
	checkOuts(t, what, got.Outs, want.Outs)
	checkHost(t, what, got.Host, want.Host)
	if !sameHost(h, host) || !slices.Equal(ops, asked) {
		t.Errorf("%s: what was handed in is another one", what)
	}
	if got.Code == impl.OK {
		checkNumber(t, what+": fault", impl.MemHostFault(got.Host), 0)
	}
	return got
}

// aloneIn finds what no slot leads to yet: from on, count empty ones in a row; -1 where there are none.
func aloneIn(texts []string, from int64, count int64) int64 {
	for at := from; at+count <= int64(len(texts)); at += count {
		if strings.Join(texts[at:at+count], "") == "" {
			return at
		}
	}
	return -1
}

func randomCell(rng *rand.Rand) string {
	return cellOf(string(rune('a' + rng.Intn(3))))[:15] + string(rune('a'+rng.Intn(3)))
}

// randomGroup makes slots of a guest a huge group, where cells are left for one.
func randomGroup(rng *rand.Rand, h *impl.MemHost, g *impl.MemGuest, group int64) bool {
	from := aloneIn(h.Cells, 0, 4)
	if from < 0 || rng.Intn(4) > 0 {
		return false
	}
	for n := range int64(4) {
		h.Cells[from+n] = randomCell(rng)
		g.Slots[group*4+n].Kind, g.Slots[group*4+n].At = 1, from+n
	}
	g.Huge = append(g.Huge, group)
	return true
}

func randomSlot(rng *rand.Rand, h *impl.MemHost, s *impl.MemSlot, open []int64) []int64 {
	cell, place := aloneIn(h.Cells, 0, 1), aloneIn(h.Swap, 0, 1)
	switch kind := rng.Intn(10); {
	case kind < 5 && cell >= 0:
		if skip := rng.Int63n(int64(len(h.Cells))); h.Cells[skip] == "" {
			cell = skip
		}
		h.Cells[cell] = randomCell(rng)
		s.Kind, s.At = 1, cell
		return append(open, cell)
	case kind < 7 && len(open) > 0:
		s.Kind, s.At = 1, open[rng.Intn(len(open))]
	case kind < 9 && place >= 0:
		if skip := rng.Int63n(int64(len(h.Swap))); h.Swap[skip] == "" {
			place = skip
		}
		h.Swap[place] = randomCell(rng)
		s.Kind, s.At = 2, place
	}
	return open
}

// randomHost is right; its cells are few enough that they run out.
func randomHost(rng *rand.Rand) impl.MemHost {
	h := impl.MemHost{Time: rng.Int63n(12)}
	h.Cells = make([]string, oneOf(rng, 0, 1, 2, 3, 5, 8, 12, 12, 16, 20, 64))
	h.Swap = make([]string, oneOf(rng, 0, 1, 2, 4, 4, 10, 64))
	var open []int64
	for range oneOf(rng, 1, 2, 2, 3, 8) {
		g := impl.MemGuest{Slots: make([]impl.MemSlot, oneOf(rng, 0, 1, 3, 4, 5, 8, 10, 32))}
		for n := range g.Slots {
			g.Slots[n].Used = rng.Int63n(h.Time + 1)
		}
		for n := 0; n < len(g.Slots); n++ {
			if n%4 == 0 && n+4 <= len(g.Slots) && randomGroup(rng, &h, &g, int64(n/4)) {
				n += 3
				continue
			}
			open = randomSlot(rng, &h, &g.Slots[n], open)
		}
		for n := range g.Slots {
			if rng.Intn(5) == 0 {
				g.Dirty = impl.PutBit(g.Dirty, int64(n), rng.Intn(3) > 0)
			}
		}
		h.Guests = append(h.Guests, g)
	}
	return h
}

func randomMemOp(rng *rand.Rand, h impl.MemHost) impl.MemOp {
	op := impl.MemOp{Kind: oneOf(rng, 1, 1, 1, 2, 2, 2, 3, 4, 5, 6, 7, 8), Guest: rng.Int63n(int64(len(h.Guests)))}
	slots := int64(len(h.Guests[op.Guest].Slots))
	if op.Kind == 6 || op.Kind == 7 {
		slots /= 4
	}
	op.Slot = rng.Int63n(slots + 1)
	if slots > 0 && rng.Intn(20) > 0 {
		op.Slot = rng.Int63n(slots)
	}
	op.At = rng.Int63n(16)
	op.Text = randomCell(rng)[:1+rng.Int63n(16-op.At)]
	switch rng.Intn(50) {
	case 0:
		op.Kind = oneOf(rng, 0, -1, 9, 10, 1<<40)
	case 1:
		op.Guest = oneOf(rng, -1, int64(len(h.Guests)), int64(len(h.Guests))-1, 1<<62)
	case 2:
		op.Slot = oneOf(rng, -1, -4, slots, slots-1, 4*slots, 1<<61, 1<<62)
	case 3:
		op.At = oneOf(rng, -1, 16, 17, 1<<62, -1<<63)
	case 4:
		op.Text = cellOf("z")[:oneOf(rng, 0, 1, 15, 16)]
	}
	return op
}

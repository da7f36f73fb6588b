package tests

import (
	"fmt"
	"math/rand"
	"slices"
	"testing"

	"loop.example/g00038/impl"
)

// allReads is what all guests' slots read as.
func allReads(h impl.MemHost) [][]string {
	var all [][]string
	for guest := range h.Guests {
		all = append(all, impl.CellsOf(h, int64(guest)))
	}
	return all
}

func checkReads(t *testing.T, what string, got [][]string, want [][]string) {
	t.Helper()
	if !slices.EqualFunc(got, want, slices.Equal) {
		t.Errorf("%s: got %q\nwant %q", what, got, want)
	}
}

// noteOp does to the row of what slots read as what an op without a code says, and to nothing else.
func noteOp(reads [][]string, op impl.MemOp) {
	switch op.Kind {
	case impl.MmWrite:
		text := []byte(reads[op.Guest][op.Slot])
		copy(text[op.At:], op.Text)
		reads[op.Guest][op.Slot] = string(text)
	case impl.MmBalloon:
		reads[op.Guest][op.Slot] = bytes0(16)
	}
}

// eventsOf names what an op met with, to tell whether the tests meet with all of it.
func eventsOf(before impl.MemHost, op impl.MemOp, out impl.MemOut) []string {
	events := []string{fmt.Sprintf("op %d code %d", min(max(op.Kind, 0), 9), out.Code)}
	if out.Code != impl.OK || op.Kind > impl.MmSwap {
		return events
	}
	s := before.Guests[op.Guest].Slots[op.Slot]
	shared := s.Kind == impl.SlotFrame && plainUsers(before, 1, s.At) > 1
	events = append(events, fmt.Sprintf("op %d slot %d shared %v", op.Kind, s.Kind, shared))
	if slices.Contains(before.Guests[op.Guest].Huge, op.Slot/4) {
		events = append(events, fmt.Sprintf("op %d huge", op.Kind))
	}
	if !slices.Contains(before.Cells, "") {
		full := slices.Contains(before.Swap, "")
		events = append(events, fmt.Sprintf("op %d slot %d shared %v, none is free, a place %v", op.Kind, s.Kind, shared, full))
	}
	return events
}

func wantedEvents() []string {
	wanted := []string{
		"op 0 code 1", "op 1 code 0", "op 1 code 4", "op 1 code 5", "op 2 code 0", "op 2 code 2", "op 2 code 4", "op 2 code 5",
		"op 3 code 0", "op 3 code 5", "op 4 code 0", "op 4 code 4", "op 4 code 5", "op 4 code 6", "op 5 code 0",
		"op 6 code 0", "op 6 code 4", "op 6 code 5", "op 6 code 6", "op 7 code 0", "op 7 code 5", "op 7 code 6", "op 8 code 0", "op 8 code 5", "op 9 code 1",
		"op 1 huge", "op 2 huge", "op 3 huge", "op 4 huge", "op 4 slot 1 shared false",
		"op 1 slot 2 shared false, none is free, a place false", "op 2 slot 2 shared false, none is free, a place false",
		"op 1 slot 2 shared false, none is free, a place true", "op 2 slot 2 shared false, none is free, a place true",
		"op 2 slot 0 shared false, none is free, a place true", "op 2 slot 1 shared true, none is free, a place true",
	}
	for kind := 1; kind < 4; kind++ {
		for _, slot := range []string{"slot 0 shared false", "slot 1 shared false", "slot 1 shared true", "slot 2 shared false"} {
			wanted = append(wanted, fmt.Sprintf("op %d %s", kind, slot))
		}
	}
	return wanted
}

// Op by op: what slots read as, the host, and the whole of it against the plain one.
func TestP22SlotsReadAsWhatWasWritten(t *testing.T) {
	rng := rand.New(rand.NewSource(1222))
	met := map[string]int{}
	for n := range 1500 {
		h := randomHost(rng)
		reads := allReads(h)
		for range 60 {
			op := randomMemOp(rng, h)
			run := checkMemoryRun(t, "an op", h, []impl.MemOp{op})
			if t.Failed() {
				t.Fatalf("host %d, op %+v of\n%s\n", n, op, hostText(h))
			}
			out := run.Outs[0]
			if op.Kind == impl.MmRead && out.Code == impl.OK {
				checkText(t, "read", out.Text, reads[op.Guest][op.Slot])
			}
			if out.Code == impl.OK {
				noteOp(reads, op)
			}
			checkReads(t, "behind it", allReads(run.Host), reads)
			for _, event := range eventsOf(h, op, out) {
				met[event]++
			}
			h = run.Host
		}
	}
	for _, event := range wantedEvents() {
		if met[event] < 20 {
			t.Errorf("%s: met with %d times", event, met[event])
		}
	}
}

// All ops at once come to what they come to in parts.
func TestP22RunsInParts(t *testing.T) {
	rng := rand.New(rand.NewSource(1223))
	for n := range 600 {
		h := randomHost(rng)
		var ops []impl.MemOp
		for range rng.Intn(200) {
			ops = append(ops, randomMemOp(rng, h))
		}
		reads := allReads(h)
		whole := checkMemoryRun(t, fmt.Sprintf("host %d", n), h, ops)
		for at, out := range whole.Outs {
			if out.Code == impl.OK {
				noteOp(reads, ops[at])
			}
		}
		checkReads(t, fmt.Sprintf("host %d", n), allReads(whole.Host), reads)
		cut := rng.Intn(len(ops) + 1)
		first := impl.RunMemory(h, ops[:cut])
		second := impl.RunMemory(first.Host, ops[cut:])
		checkHost(t, fmt.Sprintf("host %d in parts", n), second.Host, whole.Host)
		checkOuts(t, fmt.Sprintf("host %d in parts", n), append(first.Outs, second.Outs...), whole.Outs)
		if t.Failed() {
			return
		}
	}
}

// alikeOutsideHuge counts the cells that a sharing would have to free.
func alikeOutsideHuge(h impl.MemHost) int64 {
	count := int64(0)
	seen := map[string]bool{}
	for at, text := range h.Cells {
		if text == "" || plainInHuge(h, int64(at)) {
			continue
		}
		if seen[text] {
			count++
		}
		seen[text] = true
	}
	return count
}

func emptyCells(h impl.MemHost) int64 {
	count := int64(0)
	for _, text := range h.Cells {
		if text == "" {
			count++
		}
	}
	return count
}

func TestP23SharingChangesNothingThatIsRead(t *testing.T) {
	rng := rand.New(rand.NewSource(1231))
	share := []impl.MemOp{{Kind: impl.MmShare}}
	freed := int64(0)
	for n := range 3000 {
		h := randomHost(rng)
		what := fmt.Sprintf("host %d", n)
		once := checkMemoryRun(t, what, h, share)
		checkReads(t, what, allReads(once.Host), allReads(h))
		checkNumber(t, what+": Num", once.Outs[0].Num, alikeOutsideHuge(h))
		checkNumber(t, what+": cells that became free", emptyCells(once.Host)-emptyCells(h), once.Outs[0].Num)
		twice := checkMemoryRun(t, what, once.Host, share)
		checkOuts(t, what+" again", twice.Outs, []impl.MemOut{{}})
		again := copyHost(twice.Host)
		again.Time--
		checkHost(t, what+" again", again, once.Host)
		freed += once.Outs[0].Num
		if t.Failed() {
			return
		}
	}
	if freed < 3000 {
		t.Errorf("only %d cells became free", freed)
	}
}

package tests

import (
	"fmt"
	"math/rand"
	"slices"
	"testing"

	"loop.example/g00038/impl"
)

// flatDisk is an image as rows of bytes: what it reads as, what is behind it, and what its Snaps would read as.
type flatDisk struct {
	row    string
	behind string
	snaps  map[string]string
}

func newFlatDisk(list []impl.Image, name string) *flatDisk {
	m := imageNamed(list, name)
	behind := impl.DiskOf(list, m.Back)
	d := &flatDisk{row: rowOf(m, m.Table, behind), behind: (behind + bytes0(1024))[:16*len(m.Table)], snaps: map[string]string{}}
	for _, s := range m.Snaps {
		d.snaps[s.Name] = rowOf(m, s.Table, behind)
	}
	return d
}

// note is what an op that was done makes of the row.
func (d *flatDisk) note(op impl.ImageOp) {
	from, to := 16*op.At, 16*(op.At+op.Size)
	switch op.Kind {
	case impl.ImWrite:
		d.row = d.row[:op.At] + op.Text + d.row[op.At+int64(len(op.Text)):]
	case impl.ImTrim:
		d.row = d.row[:from] + d.behind[from:to] + d.row[to:]
	case impl.ImZero:
		d.row = d.row[:from] + bytes0(int(to-from)) + d.row[to:]
	case impl.ImSnap:
		d.snaps[op.Text] = d.row
	case impl.ImRevert:
		d.row = d.snaps[op.Text]
	case impl.ImDrop:
		delete(d.snaps, op.Text)
	}
}

// checkFlat holds the list to the rows, by reads and by reverts to each Snap.
func checkFlat(t *testing.T, what string, list []impl.Image, name string, d *flatDisk) {
	t.Helper()
	checkNumber(t, what+": ChainFault", impl.ChainFault(list), impl.OK)
	checkText(t, what+": DiskOf", impl.DiskOf(list, name), d.row)
	m := imageNamed(list, name)
	checkNumber(t, what+": Snaps", int64(len(m.Snaps)), int64(len(d.snaps)))
	for _, s := range m.Snaps {
		back := impl.RunImage(list, name, []impl.ImageOp{diskRevert(s.Name)})
		checkText(t, what+": Snap "+s.Name, impl.DiskOf(putImage(list, back.Image), name), d.snaps[s.Name])
	}
}

// imageEvents are what an op met with: its code, and of a write the kinds of entries.
func imageEvents(m impl.Image, op impl.ImageOp, code int64) []string {
	events := []string{fmt.Sprintf("op %d code %d", min(max(op.Kind, 0), 7), code)}
	if op.Kind != impl.ImWrite || code != impl.OK {
		return events
	}
	for n := op.At / 16; n <= (op.At+int64(len(op.Text))-1)/16; n++ {
		entry := m.Table[n]
		own, others := 0, 0
		for at, other := range slices.Concat(append([][]int64{m.Table}, snapTables(m)...)...) {
			if other == entry && at < len(m.Table) {
				own++
			} else if other == entry {
				others++
			}
		}
		kind := "text"
		if entry < 0 {
			kind = fmt.Sprintf("entry %d", entry)
		}
		events = append(events, fmt.Sprintf("write on a %s, twice %v, a Snap's %v", kind, entry >= 0 && own > 1, entry >= 0 && others > 0))
	}
	return events
}

func wantedImageEvents() []string {
	return []string{
		"op 0 code 1", "op 7 code 1", "op 1 code 0", "op 1 code 2", "op 1 code 4", "op 2 code 0", "op 2 code 2", "op 3 code 0", "op 3 code 2",
		"op 4 code 0", "op 4 code 1", "op 4 code 4", "op 4 code 9", "op 5 code 0", "op 5 code 5", "op 6 code 0", "op 6 code 5",
		"write on a entry -1, twice false, a Snap's false", "write on a entry -2, twice false, a Snap's false",
		"write on a text, twice false, a Snap's false", "write on a text, twice true, a Snap's false",
		"write on a text, twice false, a Snap's true", "write on a text, twice true, a Snap's true",
	}
}

// Op by op: the disk, the Snaps, the chain, and the whole of it against the plain image.
func TestP24DisksAreOneRowOfBytes(t *testing.T) {
	rng := rand.New(rand.NewSource(1324))
	met := map[string]int{}
	for n := range 250 {
		list := randomImages(rng)
		name := list[rng.Intn(len(list))].Name
		d := newFlatDisk(list, name)
		for range 40 {
			m := imageNamed(list, name)
			op := randomImageOp(rng, m)
			run := checkRunImage(t, "an op", list, name, []impl.ImageOp{op})
			if run.Codes[0] == impl.OK {
				d.note(op)
			} else {
				checkImage(t, "an op with a code", run.Image, m)
			}
			for _, event := range imageEvents(m, op, run.Codes[0]) {
				met[event]++
			}
			list = putImage(list, run.Image)
			checkFlat(t, "behind it", list, name, d)
			if t.Failed() {
				t.Fatalf("chain %d, op %+v of %s", n, op, imageText(m))
			}
		}
	}
	for _, event := range wantedImageEvents() {
		if met[event] < 20 {
			t.Errorf("%s: met with %d times", event, met[event])
		}
	}
}

// All ops at once come to what they come to in parts, and read in pieces the disk is what it is as a whole.
func TestP24RunsInParts(t *testing.T) {
	rng := rand.New(rand.NewSource(1327))
	for n := range 200 {
		list := randomImages(rng)
		name := list[rng.Intn(len(list))].Name
		var ops []impl.ImageOp
		for range rng.Intn(120) {
			ops = append(ops, randomImageOp(rng, imageNamed(list, name)))
		}
		d := newFlatDisk(list, name)
		what := fmt.Sprintf("chain %d", n)
		whole := checkRunImage(t, what, list, name, ops)
		for at, code := range whole.Codes {
			if code == impl.OK {
				d.note(ops[at])
			}
		}
		checkFlat(t, what, putImage(list, whole.Image), name, d)
		cut := rng.Intn(len(ops) + 1)
		first := impl.RunImage(list, name, ops[:cut])
		second := impl.RunImage(putImage(list, first.Image), name, ops[cut:])
		checkImage(t, what+" in parts", second.Image, whole.Image)
		checkNumbers(t, what+" in parts", append(first.Codes, second.Codes...), whole.Codes)
		checkPieces(t, what, rng, putImage(list, whole.Image), name)
		if t.Failed() {
			return
		}
	}
}

func checkPieces(t *testing.T, what string, rng *rand.Rand, list []impl.Image, name string) {
	t.Helper()
	disk := impl.DiskOf(list, name)
	read := ""
	for len(read) < len(disk) {
		size := min(1+rng.Intn(40), len(disk)-len(read))
		piece := impl.ReadImage(list, name, int64(len(read)), int64(size))
		checkNumber(t, what+": a piece", piece.Code, impl.OK)
		read += piece.Data
		if len(piece.Data) != size {
			t.Errorf("%s: a piece of %d bytes, not %d", what, len(piece.Data), size)
			return
		}
	}
	checkText(t, what+": in pieces", read, disk)
}

package tests

import (
	"fmt"
	"math"
	"math/rand"
	"slices"
	"strings"
	"testing"

	"loop.example/g00038/impl"
)

const someMaster = "0123456789abcdef"

func checkMake(t *testing.T, what string, master string, pass string, salt int64) impl.VolumeRes {
	t.Helper()
	got := impl.MakeVolume(master, pass, salt)
	checkVolumeRes(t, what+": MakeVolume", got, plainMake(master, pass, salt))
	return got
}

func checkOpen(t *testing.T, what string, v impl.Volume, pass string) impl.Opened {
	t.Helper()
	was := copyVolume(v)
	got := impl.OpenVolume(v, pass)
	checkEqual(t, what+": OpenVolume", got, plainOpen(v, pass))
	checkKept(t, what, v, was)
	return got
}

// checkAdd also holds that the answer's Slots are apart from those handed in, with whatever room these have.
func checkAdd(t *testing.T, what string, v impl.Volume, old string, pass string, salt int64) impl.VolumeRes {
	t.Helper()
	was := copyVolume(v)
	v.Slots = slices.Grow(v.Slots, 5)
	got, want := impl.AddPass(v, old, pass, salt), plainAdd(v, old, pass, salt)
	checkVolumeRes(t, what+": AddPass", got, want)
	spoil(got.Volume)
	checkKept(t, what, v, was)
	return want
}

func checkDrop(t *testing.T, what string, v impl.Volume, n int64) impl.VolumeRes {
	t.Helper()
	was := copyVolume(v)
	got, want := impl.DropPass(v, n), plainDrop(v, n)
	checkVolumeRes(t, what+": DropPass", got, want)
	spoil(got.Volume)
	checkKept(t, what, v, was)
	return want
}

func spoil(v impl.Volume) {
	for n := range v.Slots {
		v.Slots[n] = impl.KeySlot{Salt: -77}
	}
}

func checkKept(t *testing.T, what string, is impl.Volume, was impl.Volume) {
	t.Helper()
	if !sameVolume(is, was) {
		t.Errorf("%s: the volume handed in changed", what)
	}
}

// checkVolumeFault holds all calls to what is said of a volume.
func checkVolumeFault(t *testing.T, what string, v impl.Volume, right bool) {
	t.Helper()
	code := int64(impl.ErrForm)
	if right {
		code = impl.OK
	}
	was := copyVolume(v)
	checkNumber(t, what+": VolumeFault", impl.VolumeFault(v), code)
	checkEqual(t, what+": the plain one", plainVolumeRight(v), right)
	opened, added, dropped := checkOpen(t, what, v, "p0"), checkAdd(t, what, v, "p0", "new", 9), checkDrop(t, what, v, 0)
	if !right {
		checkNumbers(t, what+": codes", []int64{opened.Code, added.Code, dropped.Code}, []int64{code, code, code})
		// The volume is looked at ahead of all else but what is too long.
		checkVolumeRes(t, what+": no salt", impl.AddPass(v, "none", "new", -1), impl.VolumeRes{Code: code})
		checkVolumeRes(t, what+": no such Slot", impl.DropPass(v, -1), impl.VolumeRes{Code: code})
		long := strings.Repeat("p", impl.MaxSeal+1)
		checkEqual(t, what+": too long a pass", impl.OpenVolume(v, long), impl.Opened{Code: impl.ErrSize})
		checkVolumeRes(t, what+": too long an old pass", impl.AddPass(v, long, "new", 9), impl.VolumeRes{Code: impl.ErrSize})
		checkVolumeRes(t, what+": too long a new pass", impl.AddPass(v, "p0", long, 9), impl.VolumeRes{Code: impl.ErrSize})
	}
	checkKept(t, what, v, was)
}

// volumeOf has a Slot for each of the passes p0, p1, p2 ..
func volumeOf(count int) impl.Volume {
	v := impl.Volume{Check: plainTag(someMaster, "")}
	for n := range count {
		v.Slots = append(v.Slots, plainSlot(someMaster, fmt.Sprintf("p%d", n), int64(1000*n)))
	}
	return v
}

func TestVolumeFaultOfSlots(t *testing.T) {
	for count, right := range map[int]bool{0: false, 1: true, 2: true, 3: true, 4: true, 5: false, 6: false, 1000: false, 1001: false} {
		checkVolumeFault(t, fmt.Sprintf("%d Slots", count), volumeOf(count), right)
	}
	checkVolumeFault(t, "nothing", impl.Volume{}, false)
	for count := 1; count <= 4; count++ {
		for n := range count {
			v := volumeOf(count)
			what := fmt.Sprintf("Slot %d of %d", n, count)
			changed := func(change func(slot *impl.KeySlot)) impl.Volume {
				return changedVolume(v, func(v *impl.Volume) { change(&v.Slots[n]) })
			}
			for _, salt := range numbersThatAreNoWords() {
				checkVolumeFault(t, fmt.Sprintf("%s, Salt %d", what, salt), changed(func(slot *impl.KeySlot) { slot.Salt = salt }), false)
			}
			for _, salt := range []int64{0, 1, 1<<31 - 1, 1 << 31, 1<<32 - 1} {
				checkVolumeFault(t, fmt.Sprintf("%s, Salt %d", what, salt), changed(func(slot *impl.KeySlot) { slot.Salt = salt }), true)
			}
			for _, size := range []int{0, 1, 7, 8, 9, 15, 16, 17, 32, 4096, 4097, 65537} {
				text := strings.Repeat("x", size)
				checkVolumeFault(t, fmt.Sprintf("%s, Key of %d", what, size), changed(func(slot *impl.KeySlot) { slot.Key = text }), size == 16)
				checkVolumeFault(t, fmt.Sprintf("%s, Tag of %d", what, size), changed(func(slot *impl.KeySlot) { slot.Tag = text }), size == 8)
				check := changedVolume(v, func(v *impl.Volume) { v.Check = text })
				checkVolumeFault(t, fmt.Sprintf("%s, Check of %d", what, size), check, size == 8)
			}
			checkVolumeFault(t, what+" is empty", changed(func(slot *impl.KeySlot) { *slot = impl.KeySlot{} }), false)
		}
	}
}

// The wanted bytes come from another program, which was written from the document's words.
func TestMakeVolumeKnown(t *testing.T) {
	for _, c := range []struct {
		pass string
		slot impl.KeySlot
	}{
		{"p", impl.KeySlot{Salt: 7, Key: "\x01\x87\x9b\x41\x50\xce\x96\x25\x75\xd8\xa1\xfc\x6c\x0b\x95\x36", Tag: "\x6a\xaa\x9a\x25\x30\xc9\xf3\x12"}},
		{"", impl.KeySlot{Salt: 0, Key: "\x7e\x77\x69\x4f\xc0\x99\x8b\x95\xc6\xd2\x31\x32\x4f\x9b\xc4\x3c", Tag: "\xb3\x11\x58\x39\x19\x0e\x28\x6f"}},
		{"pass", impl.KeySlot{Salt: 1<<32 - 1, Key: "\x91\x02\xc1\xfc\xd5\x71\x26\xa7\xae\x07\x5f\x8a\x1c\x88\x5c\xcb", Tag: "\xf4\x97\xfc\x75\x01\x21\x3a\x0a"}},
	} {
		want := impl.Volume{Slots: []impl.KeySlot{c.slot}, Check: "\x59\xa0\x3e\x69\xd2\x9c\x0e\x1f"}
		checkVolumeRes(t, c.pass, impl.MakeVolume(someMaster, c.pass, c.slot.Salt), impl.VolumeRes{Volume: want})
		checkEqual(t, c.pass, impl.OpenVolume(want, c.pass), impl.Opened{Data: someMaster})
	}
}

func TestMakeVolume(t *testing.T) {
	long := strings.Repeat("p", impl.MaxBytes+1)
	for _, size := range []int{0, 1, 100, impl.MaxSeal - 1, impl.MaxSeal} {
		for _, salt := range []int64{0, 1, 1 << 31, 1<<32 - 1} {
			what := fmt.Sprintf("a pass of %d bytes, salt %d", size, salt)
			made := checkMake(t, what, someMaster, long[:size], salt)
			checkNumbers(t, what, []int64{made.Code, impl.VolumeFault(made.Volume), int64(len(made.Volume.Slots))}, []int64{0, 0, 1})
		}
	}
	refused := func(what string, master string, pass string, salt int64, code int64) {
		t.Helper()
		checkVolumeRes(t, what, checkMake(t, what, master, pass, salt), impl.VolumeRes{Code: code})
	}
	for _, size := range []int{0, 1, 8, 15, 17, 32, impl.MaxSeal} {
		refused(fmt.Sprintf("a master key of %d bytes", size), long[:size], "p", 7, impl.ErrForm)
		refused("a long pass, too", long[:size], long[:impl.MaxSeal+1], 7, impl.ErrSize)
	}
	for _, salt := range numbersThatAreNoWords() {
		refused(fmt.Sprintf("salt %d", salt), someMaster, "p", salt, impl.ErrForm)
		refused("a long pass, too", someMaster, long[:impl.MaxSeal+1], salt, impl.ErrSize)
		refused("a long master key, too", long[:impl.MaxSeal+1], "p", salt, impl.ErrSize)
	}
	for _, size := range []int{impl.MaxSeal + 1, impl.MaxBytes, impl.MaxBytes + 1} {
		refused(fmt.Sprintf("a master key of %d bytes", size), long[:size], "p", 7, impl.ErrSize)
		refused(fmt.Sprintf("a pass of %d bytes", size), someMaster, long[:size], 7, impl.ErrSize)
	}
}

func TestOpenVolume(t *testing.T) {
	for count := 1; count <= 4; count++ {
		v := volumeOf(count)
		for n := range 6 {
			want := impl.Opened{Data: someMaster}
			if n >= count {
				want = impl.Opened{Code: impl.ErrRight}
			}
			what := fmt.Sprintf("pass %d of %d", n, count)
			checkEqual(t, what, checkOpen(t, what, v, fmt.Sprintf("p%d", n)), want)
		}
		for _, pass := range []string{"", "p", "p00", "P0", "p0\x00", "\x00p0", strings.Repeat("p", impl.MaxSeal)} {
			checkEqual(t, "no pass", checkOpen(t, "no pass", v, pass), impl.Opened{Code: impl.ErrRight})
		}
		for _, size := range []int{impl.MaxSeal + 1, impl.MaxBytes + 1} {
			checkEqual(t, "too long a pass", checkOpen(t, "too long a pass", v, strings.Repeat("p", size)), impl.Opened{Code: impl.ErrSize})
		}
	}
}

// A volume of which one byte is another one is not opened by a pass for which that byte counts.
func TestOpenVolumeThatWasChanged(t *testing.T) {
	v := volumeOf(2)
	opens := func(what string, v impl.Volume, first bool, second bool) {
		t.Helper()
		for pass, right := range map[string]bool{"p0": first, "p1": second} {
			want := impl.Opened{Code: impl.ErrRight}
			if right {
				want = impl.Opened{Data: someMaster}
			}
			checkEqual(t, what+", "+pass, checkOpen(t, what, v, pass), want)
		}
	}
	opens("as it was", v, true, true)
	for bit := range 64 {
		by := byte(1) << (bit % 8)
		opens("another Tag", changedVolume(v, func(v *impl.Volume) { v.Slots[0].Tag = otherText(v.Slots[0].Tag, bit/8, by) }), false, true)
		opens("another Tag", changedVolume(v, func(v *impl.Volume) { v.Slots[1].Tag = otherText(v.Slots[1].Tag, bit/8, by) }), true, false)
		opens("another Check", changedVolume(v, func(v *impl.Volume) { v.Check = otherText(v.Check, bit/8, by) }), false, false)
	}
	for bit := range 128 {
		by := byte(1) << (bit % 8)
		opens("another Key", changedVolume(v, func(v *impl.Volume) { v.Slots[0].Key = otherText(v.Slots[0].Key, bit/8, by) }), false, true)
	}
	// The Tag does not hang on the Salt, but what the Key gives does.
	opens("another Salt", changedVolume(v, func(v *impl.Volume) { v.Slots[0].Salt++ }), false, true)
	opens("turned", changedVolume(v, func(v *impl.Volume) { slices.Reverse(v.Slots) }), true, true)
}

// A Slot whose Tag is right and whose Key gives another master key is gone by.
func TestOpenVolumeWithSlotsOfOnePass(t *testing.T) {
	other := plainSlot("another master..", "p", 5)
	right := plainSlot(someMaster, "p", 6)
	twin := plainSlot(someMaster, "p", 7)
	check := plainTag(someMaster, "")
	for what, c := range map[string]struct {
		slots []impl.KeySlot
		code  int64
	}{
		"the other one alone":         {[]impl.KeySlot{other}, impl.ErrRight},
		"the other one ahead":         {[]impl.KeySlot{other, right}, impl.OK},
		"the other one behind":        {[]impl.KeySlot{right, other}, impl.OK},
		"the other one three times":   {[]impl.KeySlot{other, other, other, right}, impl.OK},
		"two of one pass":             {[]impl.KeySlot{right, twin}, impl.OK},
		"two that are alike":          {[]impl.KeySlot{right, right}, impl.OK},
		"another pass's ahead":        {[]impl.KeySlot{plainSlot(someMaster, "q", 6), right}, impl.OK},
		"the other one and another's": {[]impl.KeySlot{other, plainSlot(someMaster, "q", 6)}, impl.ErrRight},
	} {
		want := impl.Opened{Code: c.code}
		if c.code == impl.OK {
			want.Data = someMaster
		}
		checkEqual(t, what, checkOpen(t, what, impl.Volume{Slots: c.slots, Check: check}, "p"), want)
	}
	opened := checkOpen(t, "for the other one", impl.Volume{Slots: []impl.KeySlot{right, other}, Check: plainTag("another master..", "")}, "p")
	checkEqual(t, "for the other one", opened, impl.Opened{Data: "another master.."})
}

func TestAddPass(t *testing.T) {
	for count := 1; count <= 3; count++ {
		v := volumeOf(count)
		for n := range count {
			for _, salt := range []int64{0, 1, 1000, 1<<32 - 1} {
				what := fmt.Sprintf("by pass %d of %d, salt %d", n, count, salt)
				longer := checkAdd(t, what, v, fmt.Sprintf("p%d", n), "new", salt)
				want := changedVolume(v, func(v *impl.Volume) { v.Slots = append(v.Slots, plainSlot(someMaster, "new", salt)) })
				checkVolumeRes(t, what, longer, impl.VolumeRes{Volume: want})
				checkNumber(t, what+": VolumeFault", impl.VolumeFault(longer.Volume), impl.OK)
			}
		}
		same := checkAdd(t, "the same pass once more", v, "p0", "p0", 0)
		checkNumber(t, "the same pass once more", int64(len(same.Volume.Slots)), int64(count)+1)
		for _, size := range []int{0, impl.MaxSeal} {
			long := checkAdd(t, "a long pass", v, "p0", strings.Repeat("n", size), 3)
			checkEqual(t, "a long pass", checkOpen(t, "a long pass", long.Volume, strings.Repeat("n", size)), impl.Opened{Data: someMaster})
		}
	}
}

func TestAddPassThatIsRefused(t *testing.T) {
	long := strings.Repeat("p", impl.MaxBytes+1)
	for count := 1; count <= 4; count++ {
		v := volumeOf(count)
		refused := func(what string, old string, pass string, salt int64, code int64) {
			t.Helper()
			what = fmt.Sprintf("%d Slots, %s", count, what)
			checkVolumeRes(t, what, checkAdd(t, what, v, old, pass, salt), impl.VolumeRes{Code: code})
		}
		for _, old := range []string{"", "p", "p4", "new", long[:impl.MaxSeal]} {
			refused("another old pass", old, "new", 9, impl.ErrRight)
			refused("another old pass and no salt", old, "new", -1, impl.ErrRight)
		}
		for _, salt := range numbersThatAreNoWords() {
			refused(fmt.Sprintf("salt %d", salt), "p0", "new", salt, impl.ErrForm)
		}
		for _, size := range []int{impl.MaxSeal + 1, impl.MaxBytes, impl.MaxBytes + 1} {
			refused("too long an old pass", long[:size], "new", -1, impl.ErrSize)
			refused("too long a pass", "p0", long[:size], -1, impl.ErrSize)
			refused("too long a pass and another old one", "none", long[:size], 9, impl.ErrSize)
		}
		if count == 4 {
			refused("there are MaxPasses", "p0", "new", 9, impl.ErrCount)
			refused("there are MaxPasses", "p3", "p3", 0, impl.ErrCount)
		}
	}
}

func TestDropPass(t *testing.T) {
	for count := 1; count <= 4; count++ {
		v := volumeOf(count)
		for _, n := range []int64{-1, int64(count), int64(count) + 1, 5, 256, 1 << 32, math.MinInt64, math.MaxInt64} {
			what := fmt.Sprintf("Slot %d of %d", n, count)
			checkVolumeRes(t, what, checkDrop(t, what, v, n), impl.VolumeRes{Code: impl.ErrNone})
		}
		for n := range count {
			what := fmt.Sprintf("Slot %d of %d", n, count)
			want := impl.VolumeRes{Code: impl.ErrState}
			if count > 1 {
				want = impl.VolumeRes{Volume: changedVolume(v, func(v *impl.Volume) { v.Slots = slices.Delete(v.Slots, n, n+1) })}
			}
			checkVolumeRes(t, what, checkDrop(t, what, v, int64(n)), want)
		}
	}
	// Which Slot goes is told by its number alone, whether or not another opens.
	blind := volumeOf(2)
	blind.Check = "12345678"
	checkNumber(t, "a volume that nobody opens", checkDrop(t, "a volume that nobody opens", blind, 1).Code, impl.OK)
}

func TestP30VolumesAreOpenedByTheirPasses(t *testing.T) {
	rng := rand.New(rand.NewSource(1530))
	added := 0
	for n := range 1000 {
		what := fmt.Sprintf("volume %d", n)
		master := randomBytes(rng, 16)
		passes := []string{randomBytes(rng, rng.Intn(20))}
		v := checkMake(t, what, master, passes[0], randomWord(rng)).Volume
		checkEqual(t, what, checkOpen(t, what, v, passes[0]), impl.Opened{Data: master})
		for range rng.Intn(4) {
			pass := randomBytes(rng, rng.Intn(20))
			opened := checkOpen(t, what, v, pass)
			if opened.Code == impl.OK {
				continue
			}
			checkEqual(t, what+", a pass that was not added", opened, impl.Opened{Code: impl.ErrRight})
			longer := checkAdd(t, what, v, passes[rng.Intn(len(passes))], pass, randomWord(rng))
			checkNumber(t, what+": AddPass", longer.Code, impl.OK)
			v, passes = longer.Volume, append(passes, pass)
			added++
		}
		for len(passes) > 1 {
			for _, pass := range passes {
				checkEqual(t, what, checkOpen(t, what, v, pass), impl.Opened{Data: master})
			}
			gone := passes[0]
			v, passes = checkDrop(t, what, v, 0).Volume, passes[1:]
			checkEqual(t, what+", a pass that went", checkOpen(t, what, v, gone), impl.Opened{Code: impl.ErrRight})
			checkEqual(t, what+", the next one", checkOpen(t, what, v, passes[0]), impl.Opened{Data: master})
		}
		checkNumber(t, what+": the last one", checkDrop(t, what, v, 0).Code, impl.ErrState)
	}
	if added < 500 {
		t.Errorf("only %d passes were added", added)
	}
}

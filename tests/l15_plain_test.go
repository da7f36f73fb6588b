package tests

import (
	"encoding/binary"
	"fmt"
	"math/big"
	"math/rand"
	"slices"
	"strings"
	"testing"

	"loop.example/g00038/impl"
)

const (
	plainPrime = 2147482763
	plainOrder = 1073741381
)

// checkEqual tells no more than the beginnings of long texts, which nobody reads.
func checkEqual[T comparable](t *testing.T, what string, got T, want T) {
	t.Helper()
	if got != want {
		t.Errorf("%s: got %.300s, want %.300s", what, fmt.Sprintf("%#v", got), fmt.Sprintf("%#v", want))
	}
}

// fourBytes is the word that n is, told by the library.
func fourBytes(n int64) string { return string(binary.LittleEndian.AppendUint32(nil, uint32(n))) }

func fourBytesEach(words []int64) string {
	text := ""
	for _, word := range words {
		text += fourBytes(word)
	}
	return text
}

// plainCrypt makes the whole stream ahead of all, with each of its sums from the first byte on.
func plainCrypt(key string, tweak int64, data string) string {
	if len(key) > 4096 || len(data) > 65536 {
		return ""
	}
	var stream strings.Builder
	for n := int64(0); stream.Len() < len(data); n++ {
		stream.WriteString(fourBytes(impl.Mix(key+fourBytes(tweak)+fourBytes(n), 11))[:3])
	}
	crypted := []byte(data)
	for at := range crypted {
		crypted[at] ^= stream.String()[at]
	}
	return string(crypted)
}

func plainTag(key string, data string) string {
	if len(key) > 4096 || len(data) > 4096 {
		return ""
	}
	return fourBytes(impl.Mix(key+data, 21)) + fourBytes(impl.Mix(data+key, 22))
}

func plainRegisters(regs []int64) bool {
	for _, reg := range regs {
		if !isPlainWord(reg) {
			return false
		}
	}
	return among(int64(len(regs)), 1, 8)
}

// plainMeasure measures each register by itself, by the stages that name it.
func plainMeasure(regs []int64, stages []impl.Stage) []int64 {
	if !plainRegisters(regs) || len(stages) > 1000 {
		return nil
	}
	for _, stage := range stages {
		if !among(stage.Reg, 0, int64(len(regs))-1) || len(stage.Text) > 4096 {
			return nil
		}
	}
	var measured []int64
	for n, reg := range regs {
		for _, stage := range stages {
			if stage.Reg == int64(n) {
				reg = impl.Mix(fourBytes(reg)+stage.Text, 31)
			}
		}
		measured = append(measured, reg)
	}
	return measured
}

func plainSealCode(root string, regs []int64, mask int64, data string) int64 {
	switch {
	case len(root) > 4032, len(data) > 4096, len(regs) > 1000:
		return impl.ErrSize
	case !plainRegisters(regs), !among(mask, 0, []int64{1, 3, 7, 15, 31, 63, 127, 255}[len(regs)-1]):
		return impl.ErrForm
	}
	return impl.OK
}

func plainSealKey(root string, regs []int64, mask int64) string {
	for n, reg := range regs {
		if plainBits(string([]byte{byte(mask)}))[n] {
			root += fourBytes(int64(n)) + fourBytes(reg)
		}
	}
	return root
}

func plainSeal(root string, regs []int64, mask int64, data string) impl.Sealed {
	if code := plainSealCode(root, regs, mask, data); code != impl.OK {
		return impl.Sealed{Code: code}
	}
	key := plainSealKey(root, regs, mask)
	crypted := plainCrypt(key, 1, data)
	return impl.Sealed{Mask: mask, Data: crypted, Tag: plainTag(key, crypted)}
}

func plainUnseal(root string, regs []int64, s impl.Sealed) impl.Opened {
	if code := plainSealCode(root, regs, s.Mask, s.Data); code != impl.OK {
		return impl.Opened{Code: code}
	}
	key := plainSealKey(root, regs, s.Mask)
	switch {
	case s.Code != 0:
		return impl.Opened{Code: impl.ErrForm}
	case s.Tag != plainTag(key, s.Data):
		return impl.Opened{Code: impl.ErrRight}
	}
	return impl.Opened{Data: plainCrypt(key, 1, s.Data)}
}

// plainPower is told by the library.
func plainPower(base int64, exponent int64) int64 {
	return new(big.Int).Exp(big.NewInt(base), big.NewInt(exponent), big.NewInt(plainPrime)).Int64()
}

func plainPublic(secret int64) int64 {
	if !among(secret, 1, plainOrder-1) {
		return 0
	}
	return plainPower(4, secret)
}

func plainQuote(secret int64, nonce string, regs []int64) impl.Quote {
	if !among(secret, 1, plainOrder-1) || len(nonce) > 4096 || !plainRegisters(regs) {
		return impl.Quote{}
	}
	k := impl.Mix(fourBytes(secret)+fourBytesEach(regs)+nonce, 41)%(plainOrder-1) + 1
	r := plainPower(4, k)
	e := big.NewInt(impl.Mix(fourBytes(r)+fourBytesEach(regs)+nonce, 42))
	z := e.Mod(e, big.NewInt(plainOrder))
	z.Mul(z, big.NewInt(secret)).Add(z, big.NewInt(k)).Mod(z, big.NewInt(plainOrder))
	return impl.Quote{R: r, Z: z.Int64()}
}

func plainCheckQuote(public int64, nonce string, regs []int64, q impl.Quote) bool {
	if !among(public, 2, plainPrime-1) || plainPower(public, plainOrder) != 1 || len(nonce) > 4096 || !plainRegisters(regs) {
		return false
	}
	if !among(q.R, 1, plainPrime-1) || !among(q.Z, 0, plainOrder-1) {
		return false
	}
	e := impl.Mix(fourBytes(q.R)+fourBytesEach(regs)+nonce, 42) % plainOrder
	right := new(big.Int).Mul(big.NewInt(q.R), big.NewInt(plainPower(public, e)))
	return plainPower(4, q.Z) == right.Mod(right, big.NewInt(plainPrime)).Int64()
}

func plainVolumeRight(v impl.Volume) bool {
	for _, slot := range v.Slots {
		if !isPlainWord(slot.Salt) || len(slot.Key) != 16 || len(slot.Tag) != 8 {
			return false
		}
	}
	return among(int64(len(v.Slots)), 1, 4) && len(v.Check) == 8
}

func plainSlot(master string, pass string, salt int64) impl.KeySlot {
	key := plainCrypt(pass, salt, master)
	return impl.KeySlot{Salt: salt, Key: key, Tag: plainTag(pass, key)}
}

func plainMake(master string, pass string, salt int64) impl.VolumeRes {
	switch {
	case len(master) > 4096, len(pass) > 4096:
		return impl.VolumeRes{Code: impl.ErrSize}
	case len(master) != 16, !isPlainWord(salt):
		return impl.VolumeRes{Code: impl.ErrForm}
	}
	return impl.VolumeRes{Volume: impl.Volume{Slots: []impl.KeySlot{plainSlot(master, pass, salt)}, Check: plainTag(master, "")}}
}

func plainOpen(v impl.Volume, pass string) impl.Opened {
	switch {
	case len(pass) > 4096:
		return impl.Opened{Code: impl.ErrSize}
	case !plainVolumeRight(v):
		return impl.Opened{Code: impl.ErrForm}
	}
	opened := impl.Opened{Code: impl.ErrRight}
	for _, slot := range slices.Backward(v.Slots) {
		master := plainCrypt(pass, slot.Salt, slot.Key)
		if slot.Tag == plainTag(pass, slot.Key) && v.Check == plainTag(master, "") {
			opened = impl.Opened{Data: master}
		}
	}
	return opened
}

func plainAdd(v impl.Volume, old string, pass string, salt int64) impl.VolumeRes {
	opened := plainOpen(v, old)
	switch {
	case len(pass) > 4096:
		return impl.VolumeRes{Code: impl.ErrSize}
	case opened.Code != impl.OK:
		return impl.VolumeRes{Code: opened.Code}
	case !isPlainWord(salt):
		return impl.VolumeRes{Code: impl.ErrForm}
	case len(v.Slots) > 3:
		return impl.VolumeRes{Code: impl.ErrCount}
	}
	longer := copyVolume(v)
	longer.Slots = append(longer.Slots, plainSlot(opened.Data, pass, salt))
	return impl.VolumeRes{Volume: longer}
}

func plainDrop(v impl.Volume, n int64) impl.VolumeRes {
	shorter := impl.Volume{Check: v.Check}
	for at, slot := range v.Slots {
		if int64(at) != n {
			shorter.Slots = append(shorter.Slots, slot)
		}
	}
	switch {
	case !plainVolumeRight(v):
		return impl.VolumeRes{Code: impl.ErrForm}
	case len(shorter.Slots) == len(v.Slots):
		return impl.VolumeRes{Code: impl.ErrNone}
	case len(shorter.Slots) == 0:
		return impl.VolumeRes{Code: impl.ErrState}
	}
	return impl.VolumeRes{Volume: shorter}
}

func plainCryptDisk(master string, disk string) string {
	if len(master) > 4096 || len(disk) > 65536 || len(disk)%16 > 0 {
		return ""
	}
	crypted := ""
	for n := int64(0); n < int64(len(disk))/16; n++ {
		crypted += plainCrypt(master, n, disk[16*n:16*n+16])
	}
	return crypted
}

func copyVolume(v impl.Volume) impl.Volume {
	return impl.Volume{Slots: slices.Clone(v.Slots), Check: v.Check}
}

// changedVolume is another volume than the one that is handed in, which stays as it is.
func changedVolume(v impl.Volume, change func(v *impl.Volume)) impl.Volume {
	own := copyVolume(v)
	change(&own)
	return own
}

func sameVolume(a impl.Volume, b impl.Volume) bool {
	return a.Check == b.Check && slices.Equal(a.Slots, b.Slots)
}

func checkVolumeRes(t *testing.T, what string, got impl.VolumeRes, want impl.VolumeRes) {
	t.Helper()
	if got.Code != want.Code || !sameVolume(got.Volume, want.Volume) {
		t.Errorf("%s: got %.300s, want %.300s", what, fmt.Sprintf("%#v", got), fmt.Sprintf("%#v", want))
	}
}

// otherText has the one byte at that place changed.
func otherText(text string, at int, by byte) string {
	bytes := []byte(text)
	bytes[at] ^= by
	return string(bytes)
}

func randomBytes(rng *rand.Rand, size int) string {
	bytes := make([]byte, size)
	rng.Read(bytes)
	return string(bytes)
}

// randomWord is often one at the ends of what a word holds.
func randomWord(rng *rand.Rand) int64 {
	return oneOf(rng, 0, 1, 255, 1<<31-1, 1<<31, 1<<32-1, rng.Int63n(1<<32), rng.Int63n(1<<32), rng.Int63n(1<<32))
}

func randomRegisters(rng *rand.Rand) []int64 {
	regs := make([]int64, 1+rng.Intn(8))
	for n := range regs {
		regs[n] = randomWord(rng)
	}
	return regs
}

// numbersThatAreNoWords lie beside the ends of a word, and at those of a number.
func numbersThatAreNoWords() []int64 {
	return []int64{-1, -2, 1 << 32, 1<<32 + 5, 1 << 62, -1 << 32, -1 << 63, 1<<63 - 1}
}

// wrongRegisters are too few or too many, or have one that is no word.
func wrongRegisters() map[string][]int64 {
	wrong := map[string][]int64{"no registers": nil, "an empty list": {}, "9 registers": make([]int64, 9), "1000 registers": make([]int64, 1000)}
	for _, n := range numbersThatAreNoWords() {
		wrong[fmt.Sprintf("%d alone", n)] = []int64{n}
		wrong[fmt.Sprintf("%d first", n)] = []int64{n, 1, 2}
		wrong[fmt.Sprintf("%d last of 8", n)] = []int64{1, 2, 3, 4, 5, 6, 7, n}
	}
	return wrong
}

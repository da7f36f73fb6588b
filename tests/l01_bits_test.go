package tests

import (
	"encoding/hex"
	"math"
	"math/big"
	"math/bits"
	"strings"
	"testing"

	"loop.example/g00038/impl"
)

// someNumbers are the ordinary ones, those beside each power of two, and the ends of what 64 bits hold.
func someNumbers() []int64 {
	numbers := []int64{0, 7, 255, -255, 0x12345678, -0x12345678, 0x0102030405060708, math.MaxInt64, math.MinInt64}
	for power := range 63 {
		edge := int64(1) << power
		numbers = append(numbers, edge-1, edge, edge+1, -edge-1, -edge, 1-edge)
	}
	return numbers
}

// wordOf is n modulo 2^32, told by numbers that do not wrap.
func wordOf(n int64) int64 {
	return new(big.Int).Mod(big.NewInt(n), big.NewInt(1<<32)).Int64()
}

// checkText tells no more than the lengths of long texts, which nobody reads.
func checkText(t *testing.T, what string, got string, want string) {
	t.Helper()
	if got == want {
		return
	}
	if len(got)+len(want) > 200 {
		t.Errorf("%s: got another text than wanted (of %d bytes, wanted %d)", what, len(got), len(want))
		return
	}
	t.Errorf("%s: got %q, want %q", what, got, want)
}

func checkNumber(t *testing.T, what string, got int64, want int64) {
	t.Helper()
	if got != want {
		t.Errorf("%s: got %d, want %d", what, got, want)
	}
}

func TestP1WordAndSignedAreModuloWordSize(t *testing.T) {
	for _, n := range someNumbers() {
		want := wordOf(n)
		if got := impl.Word(n); got != want {
			t.Errorf("Word(%d): got %d, want %d", n, got, want)
		}
		if want >= 1<<31 {
			want -= 1 << 32
		}
		if got := impl.Signed(n); got != want {
			t.Errorf("Signed(%d): got %d, want %d", n, got, want)
		}
	}
}

func TestP1WordAndSignedAtTheirEdges(t *testing.T) {
	checkNumber(t, "Word(-1)", impl.Word(-1), 4294967295)
	checkNumber(t, "Word(WordSize - 1)", impl.Word(impl.WordSize-1), 4294967295)
	checkNumber(t, "Word(WordSize)", impl.Word(impl.WordSize), 0)
	checkNumber(t, "Word(WordSize + 1)", impl.Word(impl.WordSize+1), 1)
	checkNumber(t, "Word(-WordSize)", impl.Word(-impl.WordSize), 0)
	checkNumber(t, "Word of the least number", impl.Word(math.MinInt64), 0)
	checkNumber(t, "Word of the greatest number", impl.Word(math.MaxInt64), 4294967295)
	checkNumber(t, "Signed(2^31 - 1)", impl.Signed(1<<31-1), 1<<31-1)
	checkNumber(t, "Signed(2^31)", impl.Signed(1<<31), -1<<31)
	checkNumber(t, "Signed(-2^31)", impl.Signed(-1<<31), -1<<31)
	checkNumber(t, "Signed(-2^31 - 1)", impl.Signed(-1<<31-1), 1<<31-1)
	checkNumber(t, "Signed(WordSize - 1)", impl.Signed(impl.WordSize-1), -1)
	checkNumber(t, "Signed of the least number", impl.Signed(math.MinInt64), 0)
	checkNumber(t, "Signed of the greatest number", impl.Signed(math.MaxInt64), -1)
}

func TestP1GetWordOfPutWordIsWord(t *testing.T) {
	for _, n := range someNumbers() {
		text := impl.PutWord(n)
		if len(text) != 4 {
			t.Fatalf("PutWord(%d): %d bytes, want 4", n, len(text))
		}
		want := impl.WordRead{Good: true, Num: wordOf(n)}
		if got := impl.GetWord(text, 0); got != want {
			t.Errorf("GetWord(PutWord(%d), 0): got %+v, want %+v", n, got, want)
		}
		if got := impl.GetWord("ab"+text+"c", 2); got != want {
			t.Errorf("GetWord of PutWord(%d) at place 2: got %+v, want %+v", n, got, want)
		}
	}
}

func TestPutWordBeginsWithTheLowestByte(t *testing.T) {
	checkText(t, "PutWord(0)", impl.PutWord(0), "\x00\x00\x00\x00")
	checkText(t, "PutWord(0x01020304)", impl.PutWord(0x01020304), "\x04\x03\x02\x01")
	checkText(t, "PutWord(-1)", impl.PutWord(-1), "\xff\xff\xff\xff")
	checkText(t, "PutWord(-2)", impl.PutWord(-2), "\xfe\xff\xff\xff")
	checkText(t, "PutWord(WordSize + 5)", impl.PutWord(impl.WordSize+5), "\x05\x00\x00\x00")
	checkText(t, "PutWord of the least number", impl.PutWord(math.MinInt64), "\x00\x00\x00\x00")
}

// wrongFields are pairs of from and bits that do not lie in a word.
func wrongFields() [][2]int64 {
	return [][2]int64{
		{-1, 1}, {-1, 33}, {-5, 2}, {math.MinInt64, 1}, {math.MinInt64, math.MinInt64},
		{0, 0}, {0, -1}, {31, 0}, {32, 0}, {5, math.MinInt64}, {32, -1},
		{0, 33}, {1, 32}, {30, 3}, {31, 2}, {32, 1}, {33, 1}, {64, 1},
		{1, math.MaxInt64}, {math.MaxInt64, 1}, {math.MaxInt64, 2}, {math.MaxInt64, math.MaxInt64},
		{0, math.MaxInt64}, {31, math.MaxInt64}, {math.MaxInt64, 32}, {math.MaxInt64 - 31, 32},
	}
}

// bitOf is a bit of a number, told one by one.
func bitOf(n int64, at int64) int64 {
	return n >> at & 1
}

func TestFieldTellsItsBits(t *testing.T) {
	checkNumber(t, "Field(0x12345678, 8, 8)", impl.Field(0x12345678, 8, 8), 0x56)
	checkNumber(t, "Field(-1, 0, 32)", impl.Field(-1, 0, 32), impl.WordSize-1)
	checkNumber(t, "Field(-1, 31, 1)", impl.Field(-1, 31, 1), 1)
	checkNumber(t, "Field(WordSize, 0, 32)", impl.Field(impl.WordSize, 0, 32), 0)
	checkNumber(t, "Field(MinInt64, 31, 1)", impl.Field(math.MinInt64, 31, 1), 0)
	for _, n := range []int64{0, 1, -1, 0x12345678, -0x12345678, 0x7edcba9876543210, math.MaxInt64, math.MinInt64} {
		for from := range int64(32) {
			for width := int64(1); from+width <= 32; width++ {
				want := int64(0)
				for i := range width {
					want |= bitOf(n, from+i) << i
				}
				if got := impl.Field(n, from, width); got != want {
					t.Errorf("Field(%d, %d, %d): got %d, want %d", n, from, width, got, want)
				}
			}
		}
	}
}

func TestWithFieldChangesItsBitsAlone(t *testing.T) {
	checkNumber(t, "WithField(0, 4, 4, 0x1f)", impl.WithField(0, 4, 4, 0x1f), 0xf0)
	checkNumber(t, "WithField(-1, 0, 8, 0)", impl.WithField(-1, 0, 8, 0), 0xffffff00)
	checkNumber(t, "WithField(5, 0, 32, -1)", impl.WithField(5, 0, 32, -1), impl.WordSize-1)
	checkNumber(t, "WithField(WordSize + 5, 31, 1, 1)", impl.WithField(impl.WordSize+5, 31, 1, 1), 0x80000005)
	for _, n := range []int64{0, -1, 0x12345678, math.MinInt64, math.MaxInt64} {
		for _, v := range []int64{0, 1, -1, 0x5a5a5a5a, -0x12345678, math.MinInt64, math.MaxInt64} {
			for from := range int64(32) {
				for width := int64(1); from+width <= 32; width++ {
					want := int64(0)
					for i := range int64(32) {
						if i >= from && i < from+width {
							want |= bitOf(v, i-from) << i
						} else {
							want |= bitOf(n, i) << i
						}
					}
					if got := impl.WithField(n, from, width, v); got != want {
						t.Errorf("WithField(%d, %d, %d, %d): got %d, want %d", n, from, width, v, got, want)
					}
				}
			}
		}
	}
}

func TestFieldsOutsideOfAWordAreZero(t *testing.T) {
	for _, field := range wrongFields() {
		if got := impl.Field(-1, field[0], field[1]); got != 0 {
			t.Errorf("Field(-1, %d, %d): got %d, want 0", field[0], field[1], got)
		}
		if got := impl.WithField(-1, field[0], field[1], -1); got != 0 {
			t.Errorf("WithField(-1, %d, %d, -1): got %d, want 0", field[0], field[1], got)
		}
	}
}

// wrongPlaces are places at which a text of that many bytes holds no whole word.
func wrongPlaces(size int64) []int64 {
	places := []int64{
		-1, -2, -4, -5, math.MinInt64, math.MinInt64 + 1, math.MinInt64 + 3, math.MinInt64 + 4,
		math.MaxInt64, math.MaxInt64 - 1, math.MaxInt64 - 3, math.MaxInt64 - 4,
		1 << 32, 1<<32 + 1, -1 << 32, size, size + 1,
	}
	for place := max(size-3, 0); place < size; place++ {
		places = append(places, place)
	}
	return places
}

func TestWordsNotAllInATextAreRefused(t *testing.T) {
	for _, data := range []string{"", "a", "abc", "abcd", "abcdef", strings.Repeat("a", impl.MaxBytes)} {
		for _, at := range wrongPlaces(int64(len(data))) {
			if got := impl.GetWord(data, at); got != (impl.WordRead{}) {
				t.Errorf("GetWord of %d bytes at %d: got %+v, want the zero answer", len(data), at, got)
			}
			if got := impl.SetWord(data, at, 1); got != "" {
				t.Errorf("SetWord of %d bytes at %d: got %d bytes, want none", len(data), at, len(got))
			}
		}
	}
}

func TestGetWordAtEachPlace(t *testing.T) {
	data := "\x00\x04\x03\x02\x01\xff\x80"
	for at, want := range []int64{0x02030400, 0x01020304, 0xff010203, 0x80ff0102} {
		if got := impl.GetWord(data, int64(at)); got != (impl.WordRead{Good: true, Num: want}) {
			t.Errorf("GetWord at %d: got %+v, want %d", at, got, want)
		}
	}
	if got := impl.GetWord("\x00\x00\x00\x00", 0); got != (impl.WordRead{Good: true}) {
		t.Errorf("GetWord of four bytes 0: got %+v, want a good 0", got)
	}
}

func TestSetWordChangesItsBytesAlone(t *testing.T) {
	data := "abcdefg"
	for at := range len(data) - 3 {
		for _, n := range []int64{0, -1, 0x01020304, impl.WordSize + 5, math.MinInt64} {
			want := data[:at] + impl.PutWord(n) + data[at+4:]
			checkText(t, "SetWord", impl.SetWord(data, int64(at), n), want)
		}
	}
	checkText(t, "SetWord of a whole text", impl.SetWord("abcd", 0, -1), "\xff\xff\xff\xff")
}

func TestWordsInTheLongestText(t *testing.T) {
	long := strings.Repeat("a", impl.MaxBytes-4) + "\x04\x03\x02\x01"
	last := int64(impl.MaxBytes - 4)
	if got := impl.GetWord(long, last); got != (impl.WordRead{Good: true, Num: 0x01020304}) {
		t.Errorf("GetWord at the end of MaxBytes bytes: got %+v", got)
	}
	checkText(t, "SetWord at the end of MaxBytes bytes", impl.SetWord(long, last, 0), long[:last]+"\x00\x00\x00\x00")
	longer := long + "a"
	if got := impl.GetWord(longer, 0); got != (impl.WordRead{}) {
		t.Errorf("GetWord of MaxBytes + 1 bytes: got %+v, want the zero answer", got)
	}
	checkText(t, "SetWord of MaxBytes + 1 bytes", impl.SetWord(longer, 0, 0), "")
}

// bitIn is bit n of a set as the document says it; bits behind the end are off.
func bitIn(set string, n int64) bool {
	return n/8 < int64(len(set)) && set[n/8]&(1<<(n%8)) != 0
}

// checkPut looks at every bit of the set behind PutBit, and some behind its end.
func checkPut(t *testing.T, set string, n int64, on bool) {
	t.Helper()
	got := impl.PutBit(set, n, on)
	if want := max(len(set), int(n/8)+1); len(got) != want {
		t.Fatalf("PutBit of %d bytes, %d, %v: %d bytes, want %d", len(set), n, on, len(got), want)
	}
	for bit := range 8*int64(len(got)) + 16 {
		want := bitIn(set, bit)
		if bit == n {
			want = on
		}
		if bitIn(got, bit) != want || impl.HasBit(got, bit) != want {
			t.Fatalf("PutBit of %d bytes, %d, %v: bit %d is not %v", len(set), n, on, bit, want)
		}
	}
}

func TestP2PutBitChangesItsBitAlone(t *testing.T) {
	for _, set := range []string{"", "\x00", "\xff", "a", "\x00\x00", "\xff\xff", "\xa5\x5a\x3c", strings.Repeat("\x81", 40)} {
		for n := range int64(8*len(set) + 40) {
			checkPut(t, set, n, true)
			checkPut(t, set, n, false)
		}
	}
}

func TestP2PutBitAtItsBounds(t *testing.T) {
	last := int64(8*impl.MaxBytes - 1)
	sets := []string{"", "\x81", strings.Repeat("\xff", impl.MaxBytes-1), strings.Repeat("\xa5", impl.MaxBytes), strings.Repeat("\x00", impl.MaxBytes)}
	for _, set := range sets {
		for _, n := range []int64{0, 7, 8, last - 8, last - 7, last - 1, last} {
			checkPut(t, set, n, true)
			checkPut(t, set, n, false)
		}
	}
}

func TestPutBitGrowsAlsoWhereItPutsOff(t *testing.T) {
	checkText(t, "bit 0 off in none", impl.PutBit("", 0, false), "\x00")
	checkText(t, "bit 7 off in none", impl.PutBit("", 7, false), "\x00")
	checkText(t, "bit 8 off in none", impl.PutBit("", 8, false), "\x00\x00")
	checkText(t, "bit 20 off in one byte", impl.PutBit("a", 20, false), "a\x00\x00")
	checkText(t, "bit 9 on in none", impl.PutBit("", 9, true), "\x00\x02")
	checkText(t, "the last bit off is never shorter", impl.PutBit("a\x80", 15, false), "a\x00")
	checkText(t, "a bit 0 off, bytes 0 behind it", impl.PutBit("\x01\x00\x00", 0, false), "\x00\x00\x00")
}

func TestPutBitRefusesWhatIsOutside(t *testing.T) {
	for _, n := range []int64{-1, -8, math.MinInt64, 8 * impl.MaxBytes, 8*impl.MaxBytes + 1, 1 << 32, math.MaxInt64} {
		for _, set := range []string{"", "a", strings.Repeat("a", impl.MaxBytes)} {
			checkText(t, "PutBit outside, on", impl.PutBit(set, n, true), "")
			checkText(t, "PutBit outside, off", impl.PutBit(set, n, false), "")
		}
	}
	longer := strings.Repeat("a", impl.MaxBytes+1)
	checkText(t, "PutBit of MaxBytes + 1 bytes, on", impl.PutBit(longer, 0, true), "")
	checkText(t, "PutBit of MaxBytes + 1 bytes, off", impl.PutBit(longer, 0, false), "")
}

func TestHasBit(t *testing.T) {
	set := "\x81\x00\xff"
	for n := range int64(40) {
		if got := impl.HasBit(set, n); got != bitIn(set, n) {
			t.Errorf("HasBit %d: got %v", n, got)
		}
	}
	full := strings.Repeat("\xff", impl.MaxBytes)
	if !impl.HasBit(full, 8*impl.MaxBytes-1) {
		t.Error("HasBit: the last bit of MaxBytes bytes is off")
	}
	for _, n := range []int64{-1, -8, math.MinInt64, 8 * impl.MaxBytes, 1 << 40, math.MaxInt64} {
		if impl.HasBit(full, n) {
			t.Errorf("HasBit %d of MaxBytes bytes: on", n)
		}
	}
	if impl.HasBit("", 0) || impl.HasBit(full+"\xff", 0) {
		t.Error("HasBit: a bit is on in no byte or in MaxBytes + 1 bytes")
	}
}

func TestCountBits(t *testing.T) {
	all := ""
	want := int64(0)
	for b := range 256 {
		one := string([]byte{byte(b)})
		checkNumber(t, "CountBits of a byte", impl.CountBits(one), int64(bits.OnesCount8(byte(b))))
		all += one
		want += int64(bits.OnesCount8(byte(b)))
	}
	checkNumber(t, "CountBits of all bytes", impl.CountBits(all), want)
	checkNumber(t, "CountBits of none", impl.CountBits(""), 0)
	full := strings.Repeat("\xff", impl.MaxBytes)
	checkNumber(t, "CountBits of MaxBytes bytes", impl.CountBits(full), 8*impl.MaxBytes)
	checkNumber(t, "CountBits of MaxBytes + 1 bytes", impl.CountBits(full+"\xff"), 0)
}

// nextIn looks a little behind the end of a set, where all bits are off.
func nextIn(set string, from int64, on bool) int64 {
	for n := max(from, 0); n < 8*int64(len(set))+64; n++ {
		if bitIn(set, n) == on {
			return n
		}
	}
	return -1
}

func TestNextBit(t *testing.T) {
	for _, set := range []string{"", "\x00", "\xff", "\x05", "\x80", "\x00\x80", "\xff\xfe", "\xff\xff", "\x81\x00\x00\x18"} {
		for from := int64(-3); from < int64(8*len(set)+20); from++ {
			for _, on := range []bool{true, false} {
				if got, want := impl.NextBit(set, from, on), nextIn(set, from, on); got != want {
					t.Errorf("NextBit(%q, %d, %v): got %d, want %d", set, from, on, got, want)
				}
			}
		}
	}
}

func TestNextBitFarOutside(t *testing.T) {
	for _, from := range []int64{8, 1 << 32, math.MaxInt64 - 1, math.MaxInt64} {
		checkNumber(t, "NextBit on behind the end", impl.NextBit("\xff", from, true), -1)
		checkNumber(t, "NextBit off behind the end", impl.NextBit("\xff", from, false), from)
	}
	checkNumber(t, "NextBit on from the least number", impl.NextBit("\x04", math.MinInt64, true), 2)
	checkNumber(t, "NextBit off from the least number", impl.NextBit("\x03", math.MinInt64, false), 2)
}

func TestNextBitInTheLongestSet(t *testing.T) {
	full := strings.Repeat("\xff", impl.MaxBytes)
	checkNumber(t, "NextBit off in a full set", impl.NextBit(full, 0, false), 8*impl.MaxBytes)
	last := strings.Repeat("\x00", impl.MaxBytes-1) + "\x80"
	checkNumber(t, "NextBit on, the last one", impl.NextBit(last, 0, true), 8*impl.MaxBytes-1)
	for _, on := range []bool{true, false} {
		checkNumber(t, "NextBit of MaxBytes + 1 bytes", impl.NextBit(full+"\xff", 5, on), 0)
	}
}

// mixOf is the sum as the document says it, told by numbers that do not wrap.
func mixOf(data string, seed int64) int64 {
	prime := big.NewInt(2147483629)
	sum := new(big.Int).Mod(big.NewInt(seed), prime)
	sum.Add(sum, big.NewInt(1))
	for _, b := range []byte(data) {
		sum.Mul(sum, big.NewInt(65599))
		sum.Add(sum, big.NewInt(int64(b)+1))
		sum.Mod(sum, prime)
	}
	sum.Mul(sum, big.NewInt(40503))
	sum.Add(sum, big.NewInt(77))
	return sum.Mod(sum, prime).Int64()
}

func TestMix(t *testing.T) {
	checkNumber(t, "Mix of none", impl.Mix("", 0), 40580)
	checkNumber(t, "Mix of a", impl.Mix("a", 0), 513442039)
	checkNumber(t, "Mix of none with -1", impl.Mix("", -1), 77)
	seeds := []int64{0, 1, -1, impl.MixPrime - 1, impl.MixPrime, impl.MixPrime + 1, -impl.MixPrime, 1 - impl.MixPrime, -1 - impl.MixPrime, math.MaxInt64, math.MinInt64}
	texts := []string{"", "a", "\x00", "\x00\x00", "\xff", "ab", "ba", "\xc3\x28\xff", strings.Repeat("\xff", 300)}
	for _, seed := range seeds {
		for _, data := range texts {
			if got, want := impl.Mix(data, seed), mixOf(data, seed); got != want {
				t.Errorf("Mix(%q, %d): got %d, want %d", data, seed, got, want)
			}
		}
	}
}

func TestMixOfTheLongestText(t *testing.T) {
	long := strings.Repeat("\xff", impl.MaxBytes)
	checkNumber(t, "Mix of MaxBytes bytes", impl.Mix(long, -7), mixOf(long, -7))
	checkNumber(t, "Mix of MaxBytes + 1 bytes", impl.Mix(long+"\xff", -7), 0)
}

func TestHexAndBack(t *testing.T) {
	all := ""
	for b := range 256 {
		all += string([]byte{byte(b)})
	}
	for _, data := range []string{"", "a", "\x00", "\xff\x0f\xf0", "\xc3\x28", all} {
		want := hex.EncodeToString([]byte(data))
		checkText(t, "Hex", impl.Hex(data), want)
		checkText(t, "UnHex", impl.UnHex(want), data)
	}
}

func TestUnHexRefusesWhatIsNoHex(t *testing.T) {
	for b := range 256 {
		if strings.IndexByte("0123456789abcdef", byte(b)) >= 0 {
			continue
		}
		wrong := string([]byte{byte(b)})
		for _, text := range []string{wrong + "0", "0" + wrong, "61" + wrong + "0", "610" + wrong, wrong + wrong} {
			checkText(t, "UnHex of a digit that is none", impl.UnHex(text), "")
		}
	}
	for _, text := range []string{"6", "611", "61 ", " 61", "61fF", "0x61", "61\n"} {
		checkText(t, "UnHex of "+text, impl.UnHex(text), "")
	}
}

func TestHexAtItsBounds(t *testing.T) {
	half := strings.Repeat("\xab", impl.MaxBytes/2)
	digits := strings.Repeat("ab", impl.MaxBytes/2)
	checkText(t, "Hex of MaxBytes / 2 bytes", impl.Hex(half), digits)
	checkText(t, "UnHex of MaxBytes digits", impl.UnHex(digits), half)
	checkText(t, "Hex of MaxBytes / 2 + 1 bytes", impl.Hex(half+"a"), "")
	checkText(t, "Hex of MaxBytes bytes", impl.Hex(half+half), "")
	checkText(t, "Hex of MaxBytes + 1 bytes", impl.Hex(half+half+"a"), "")
	checkText(t, "UnHex of MaxBytes + 1 digits", impl.UnHex(digits+"a"), "")
	checkText(t, "UnHex of MaxBytes + 2 digits", impl.UnHex(digits+"ab"), "")
}

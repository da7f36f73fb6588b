package impl

import "strings"

// Constants, see chapter 2.
const (
	WordSize = 4294967296
	MixPrime = 2147483629
)

const (
	wordBits  = 32
	wordBytes = 4
	hexDigits = "0123456789abcdef"
)

// WordRead is a thing of chapter 2.
type WordRead struct {
	Good bool
	Num  int64
}

// joined always makes a new text, so that no answer shares memory with an argument.
func joined(pieces ...string) string {
	var text []byte
	for _, piece := range pieces {
		text = append(text, piece...)
	}
	return string(text)
}

// Word: see chapter 2.
func Word(n int64) int64 {
	return int64(uint32(n))
}

// Signed: see chapter 2.
func Signed(n int64) int64 {
	return int64(int32(n))
}

// isField holds bits against 32 - from, since from + bits may wrap.
func isField(from int64, bits int64) bool {
	return from >= 0 && bits >= 1 && bits <= wordBits-from
}

// lowBits is the number whose lowest bits, as many as told (0..32), are on.
func lowBits(bits int64) int64 {
	return 1<<bits - 1
}

// Field: see chapter 2.
func Field(n int64, from int64, bits int64) int64 {
	if !isField(from, bits) {
		return 0
	}
	return Word(n) >> from & lowBits(bits)
}

// WithField: see chapter 2.
func WithField(n int64, from int64, bits int64, v int64) int64 {
	if !isField(from, bits) {
		return 0
	}
	mask := lowBits(bits) << from
	return Word(n)&^mask | v<<from&mask
}

// PutWord: see chapter 2.
func PutWord(n int64) string {
	return string([]byte{byte(n), byte(n >> 8), byte(n >> 16), byte(n >> 24)})
}

// holdsWord holds at against the length less four, since at + 4 may wrap.
func holdsWord(data string, at int64) bool {
	return !tooLong(data) && at >= 0 && at <= int64(len(data))-wordBytes
}

// GetWord: see chapter 2.
func GetWord(data string, at int64) WordRead {
	if !holdsWord(data, at) {
		return WordRead{}
	}
	num := int64(0)
	for i := range int64(wordBytes) {
		num |= int64(data[at+i]) << (8 * i)
	}
	return WordRead{Good: true, Num: num}
}

// SetWord: see chapter 2.
func SetWord(data string, at int64, n int64) string {
	if !holdsWord(data, at) {
		return ""
	}
	return joined(data[:at], PutWord(n), data[at+wordBytes:])
}

// PutBit: see chapter 2.
func PutBit(set string, n int64, on bool) string {
	if tooLong(set) || n < 0 || n >= 8*MaxBytes {
		return ""
	}
	at := int(n / 8)
	missing := max(at+1-len(set), 0)
	bytes := []byte(joined(set, strings.Repeat("\x00", missing)))
	bit := byte(1) << (n % 8)
	if on {
		bytes[at] |= bit
	} else {
		bytes[at] &^= bit
	}
	return string(bytes)
}

// setSize is the number of bits for which a set has a byte.
func setSize(set string) int64 {
	return 8 * int64(len(set))
}

// HasBit: see chapter 2.
func HasBit(set string, n int64) bool {
	if tooLong(set) || n < 0 || n >= setSize(set) {
		return false
	}
	return set[n/8]>>(n%8)&1 == 1
}

// CountBits: see chapter 2.
func CountBits(set string) int64 {
	if tooLong(set) {
		return 0
	}
	count := int64(0)
	for n := range setSize(set) {
		if HasBit(set, n) {
			count++
		}
	}
	return count
}

// NextBit: see chapter 2.
func NextBit(set string, from int64, on bool) int64 {
	if tooLong(set) {
		return 0
	}
	first := max(from, 0)
	for i := range setSize(set) - first {
		if HasBit(set, first+i) == on {
			return first + i
		}
	}
	if on {
		return -1
	}
	// Every bit behind the end is off, however far behind it the search begins.
	return max(first, setSize(set))
}

// mixStart, mixOn and mixEnd are Mix in its parts, so that texts that begin alike go on from one sum.
func mixStart(seed int64) int64 {
	// Go's remainder of a seed below 0 is below 0 itself; one more MixPrime lifts it.
	return (seed%MixPrime+MixPrime)%MixPrime + 1
}

func mixOn(sum int64, data string) int64 {
	for i := range len(data) {
		sum = (sum*65599 + int64(data[i]) + 1) % MixPrime
	}
	return sum
}

func mixEnd(sum int64) int64 {
	return (sum*40503 + 77) % MixPrime
}

// Mix: see chapter 2.
func Mix(data string, seed int64) int64 {
	if tooLong(data) {
		return 0
	}
	return mixEnd(mixOn(mixStart(seed), data))
}

// Hex: see chapter 2.
func Hex(data string) string {
	if 2*len(data) > MaxBytes {
		return ""
	}
	digits := make([]byte, 2*len(data))
	for i := range len(data) {
		digits[2*i] = hexDigits[data[i]>>4]
		digits[2*i+1] = hexDigits[data[i]&15]
	}
	return string(digits)
}

// UnHex: see chapter 2.
func UnHex(text string) string {
	if tooLong(text) || len(text)%2 != 0 {
		return ""
	}
	data := make([]byte, len(text)/2)
	for i := range data {
		high := strings.IndexByte(hexDigits, text[2*i])
		low := strings.IndexByte(hexDigits, text[2*i+1])
		if high < 0 || low < 0 {
			return ""
		}
		data[i] = byte(16*high + low)
	}
	return string(data)
}

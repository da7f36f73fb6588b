package tests

import (
	"encoding/hex"
	"fmt"
	"math"
	"math/rand"
	"strings"
	"testing"

	"loop.example/g00038/impl"
)

func checkWrap(t *testing.T, what string, f impl.Frame, key int64, from int64, to int64) string {
	t.Helper()
	got := impl.WrapFrame(f, key, from, to)
	checkEqual(t, what, got, plainWrap(f, key, from, to))
	return got
}

func checkUnwrap(t *testing.T, what string, text string) impl.FrameRead {
	t.Helper()
	got := impl.UnwrapFrame(text)
	checkEqual(t, what, got, plainUnwrap(text))
	return got
}

func checkUnwrapCode(t *testing.T, what string, text string, code int64) {
	t.Helper()
	checkUnwrap(t, what, text)
	checkEqual(t, what, impl.UnwrapFrame(text), impl.FrameRead{Code: code})
}

// The bytes were told by another program.
func TestWrapFrameOfKnownBytes(t *testing.T) {
	for _, c := range []struct {
		f             impl.Frame
		key, from, to int64
		want          string
	}{
		{impl.Frame{}, 0, 0, 0, "4e5600000000000000000000000000000000000000000000000000000034997e00"},
		{netFrame(4, 258, 3, "abc"), 7, 8, 9, "4e560700000800000009000000020100000000030000000000040003006162632535624f"},
		{netFrame(4095, everybody-1, everybody, "\xff\x00N"), 1<<24 - 1, 1<<32 - 1, 1<<32 - 2, "4e56fffffffffffffffefffffffeffffffffffffffffffffffff0f0300ff004e6eafc86c"},
		{netFrame(0x0102, 0x010203040506, 0x0a0b0c0d0e0f, "hello"), 0x112233, 0x44556677, 0x8899aabb, "4e5633221177665544bbaa99880605040302010f0e0d0c0b0a0201050068656c6c6f4ba32370"},
	} {
		got := checkWrap(t, c.want, c.f, c.key, c.from, c.to)
		checkText(t, "its bytes", hex.EncodeToString([]byte(got)), c.want)
		checkEqual(t, c.want, checkUnwrap(t, c.want, got), impl.FrameRead{Key: c.key, From: c.from, To: c.to, Frame: c.f})
	}
	long := checkWrap(t, "1500 bytes", netFrame(0x0102, 0x010203040506, 0x0a0b0c0d0e0f, longText(1500)), 0x112233, 0x44556677, 0x8899aabb)
	checkNumber(t, "the greatest length", int64(len(long)), 1533)
	checkText(t, "its sum", hex.EncodeToString([]byte(long[1529:])), "c515706f")
}

func TestWrapFrameOfKeysAndHosts(t *testing.T) {
	f := netFrame(4, 258, 3, "abc")
	for key, right := range map[int64]bool{0: true, 1: true, 1<<24 - 1: true, 1 << 24: false, 1<<24 + 1: false, -1: false, math.MaxInt64: false, math.MinInt64: false, 1 << 32: false} {
		got := checkWrap(t, fmt.Sprintf("key %d", key), f, key, 8, 9)
		checkEqual(t, fmt.Sprintf("key %d", key), got != "", right)
		if right {
			checkNumber(t, "the key", impl.UnwrapFrame(got).Key, key)
		}
	}
	for host, right := range map[int64]bool{0: true, 1: true, 1<<32 - 1: true, 1 << 32: false, 1<<32 + 1: false, -1: false, math.MaxInt64: false, math.MinInt64: false} {
		from, to := checkWrap(t, fmt.Sprintf("from %d", host), f, 7, host, 9), checkWrap(t, fmt.Sprintf("to %d", host), f, 7, 8, host)
		checkEqual(t, fmt.Sprintf("from %d", host), from != "", right)
		checkEqual(t, fmt.Sprintf("to %d", host), to != "", right)
		if right {
			checkEqual(t, "from", impl.UnwrapFrame(from), impl.FrameRead{Key: 7, From: host, To: 9, Frame: f})
			checkEqual(t, "to", impl.UnwrapFrame(to), impl.FrameRead{Key: 7, From: 8, To: host, Frame: f})
		}
	}
}

func TestWrapFrameOfFrames(t *testing.T) {
	for _, addr := range []int64{-1, 0, 1, 255, 256, 1<<32 - 1, 1 << 32, everybody - 1, everybody, everybody + 1, math.MaxInt64, math.MinInt64} {
		for _, other := range []int64{0, 5, everybody} {
			for _, f := range []impl.Frame{netFrame(3, addr, other, "x"), netFrame(3, other, addr, "x")} {
				checkEqual(t, fmt.Sprintf("%+v", f), checkWrap(t, fmt.Sprintf("%+v", f), f, 7, 8, 9) != "", impl.FrameFault(f) == impl.OK)
			}
		}
	}
	for _, net := range []int64{-1, 0, 1, 255, 256, 4095, 4096, 65535, 65536, math.MaxInt64, math.MinInt64} {
		checkEqual(t, fmt.Sprintf("Net %d", net), checkWrap(t, "Net", netFrame(net, 1, 2, "x"), 7, 8, 9) != "", among(net, 0, 4095))
	}
	for _, size := range []int{0, 1, 255, 256, 257, 1499, 1500, 1501, 1967, 65535, 65536, 65537} {
		got := checkWrap(t, fmt.Sprintf("%d bytes", size), netFrame(3, 1, 2, longText(size)), 7, 8, 9)
		checkEqual(t, fmt.Sprintf("%d bytes", size), got != "", size <= 1500)
	}
}

func TestUnwrapFrameOfHowLongTexts(t *testing.T) {
	f := netFrame(4, 258, 3, "abc")
	text := impl.WrapFrame(f, 7, 8, 9)
	for size, code := range map[int]int64{0: impl.ErrSyntax, 1: impl.ErrSyntax, 32: impl.ErrSyntax, 33: impl.ErrSyntax, 1999: impl.ErrSyntax, 2000: impl.ErrSyntax, 2001: impl.ErrSize, 65536: impl.ErrSize, 65537: impl.ErrSize, 200000: impl.ErrSize} {
		checkUnwrapCode(t, fmt.Sprintf("%d bytes", size), longText(size), code)
		checkUnwrapCode(t, fmt.Sprintf("%d bytes that begin so", size), ("NV" + bytes0(size))[:size], map[bool]int64{true: impl.ErrSum, false: code}[size == 33])
		if size > len(text) {
			checkUnwrapCode(t, fmt.Sprintf("%d bytes behind a right text", size-len(text)), text+longText(size-len(text)), code)
		}
	}
}

func TestUnwrapFrameThatEndsEarly(t *testing.T) {
	for what, f := range map[string]impl.Frame{"abc": netFrame(4, 258, 3, "abc"), "no Text": netFrame(4, 258, 3, ""), "1500 bytes": netFrame(4, 258, 3, longText(1500))} {
		text := impl.WrapFrame(f, 7, 8, 9)
		for cut := range len(text) {
			checkUnwrapCode(t, fmt.Sprintf("%s: %d bytes", what, cut), text[:cut], impl.ErrSyntax)
		}
		for cut := range len(text) - 4 {
			checkUnwrapCode(t, fmt.Sprintf("%s: %d bytes with their sum", what, cut), withWrapSum(text[:cut]), impl.ErrSyntax)
		}
	}
}

func TestUnwrapFrameWithMoreBehindTheEnd(t *testing.T) {
	text := impl.WrapFrame(netFrame(4, 258, 3, "abc"), 7, 8, 9)
	wrong := text[:len(text)-4] + "\xff\xff\xff\xff"
	for _, behind := range []string{"\x00", "x", text, "NV", longText(1900)} {
		checkUnwrapCode(t, "a right sum", text+behind, impl.ErrSyntax)
		checkUnwrapCode(t, "a wrong sum", wrong+behind, impl.ErrSyntax)
		checkUnwrapCode(t, "a sum of all", withWrapSum(text+behind), impl.ErrSyntax)
		checkUnwrapCode(t, "a sum of all but the old one", withWrapSum(text[:len(text)-4]+behind), impl.ErrSyntax)
	}
}

func TestUnwrapFrameThatDoesNotBeginSo(t *testing.T) {
	text := impl.WrapFrame(netFrame(4, 258, 3, "abc"), 7, 8, 9)
	for _, begin := range []string{"nv", "Nv", "nV", "VN", "NW", "MV", "N\x00", "\x00V", "\x00\x00", "\xff\xff", "N", "V", "", " NV", "NVN"} {
		checkUnwrapCode(t, fmt.Sprintf("%q", begin), begin+text[2:], impl.ErrSyntax)
		checkUnwrapCode(t, fmt.Sprintf("%q with its sum", begin), withWrapSum(begin+text[2:len(text)-4]), impl.ErrSyntax)
	}
}

func TestUnwrapFrameOfLengths(t *testing.T) {
	f := netFrame(4, 258, 3, "")
	for _, length := range []int{0, 1, 255, 256, 1499, 1500, 1501, 1502, 1600, 1967, 1968, 2000, 32768, 65535} {
		for _, size := range []int{0, 1, 1499, 1500, 1501, 1502, 1967, length & 2047} {
			if size > 1967 {
				continue
			}
			text := plainWrapHead(f, 7, 8, 9, length) + longText(size)
			code := int64(impl.ErrSyntax)
			want := impl.FrameRead{Code: impl.ErrSyntax}
			if length == size && length <= 1500 {
				code = impl.ErrSum
				want = impl.FrameRead{Key: 7, From: 8, To: 9, Frame: netFrame(4, 258, 3, longText(size))}
			}
			what := fmt.Sprintf("length %d, %d bytes", length, size)
			checkEqual(t, what, checkUnwrap(t, what, withWrapSum(text)), want)
			checkUnwrapCode(t, what+", a wrong sum", text+fourBytes(mixOf(text, 51)+1), code)
		}
	}
}

func TestUnwrapFrameWithAnotherSum(t *testing.T) {
	for what, f := range map[string]impl.Frame{"right": netFrame(4, 258, 3, "abc"), "with a fault": netFrame(4096, 258, 3, "abc"), "no Text": netFrame(0, 0, 0, "")} {
		text := plainWrapHead(f, 7, 8, 9, len(f.Text)) + f.Text
		sum := mixOf(text, 51)
		for _, other := range []int64{sum + 1, sum - 1, 0, 1<<32 - 1, sum ^ 1<<31, sum ^ 1<<8, sum + impl.MixPrime, mixOf(text, 50), mixOf(text, 52), mixOf(text, 0), mixOf(text[2:], 51), mixOf(f.Text, 51)} {
			checkUnwrapCode(t, fmt.Sprintf("%s: sum %d", what, other), text+fourBytes(other), impl.ErrSum)
		}
	}
}

func TestUnwrapFrameWithAFaultBehindARightSum(t *testing.T) {
	for _, f := range []impl.Frame{netFrame(4, everybody, 3, "abc"), netFrame(4, everybody, everybody, ""), netFrame(4096, 1, 2, "abc"), netFrame(4097, 1, 2, ""), netFrame(65535, 1, 2, "abc"), netFrame(1<<15, everybody, 2, longText(1500))} {
		text := plainWrapHead(f, 7, 8, 9, len(f.Text)) + f.Text
		what := fmt.Sprintf("%d to %d in %d", f.Src, f.Dst, f.Net)
		checkUnwrapCode(t, what, withWrapSum(text), impl.ErrForm)
		checkUnwrapCode(t, what+", a byte behind", withWrapSum(text)+"x", impl.ErrSyntax)
		checkUnwrapCode(t, what+", a byte short", withWrapSum(text)[:len(text)+3], impl.ErrSyntax)
		checkUnwrapCode(t, what+", a wrong sum", text+"\x00\x00\x00\x00", impl.ErrSum)
		checkUnwrapCode(t, what+", another begin", withWrapSum("x"+text[1:]), impl.ErrSyntax)
		checkUnwrapCode(t, what+", too long", withWrapSum(text)+longText(2000), impl.ErrSize)
	}
	for _, f := range []impl.Frame{netFrame(4095, everybody-1, everybody, "abc"), netFrame(0, 0, 0, "")} {
		text := withWrapSum(plainWrapHead(f, 0, 1<<32-1, 0, len(f.Text)) + f.Text)
		checkEqual(t, "at the bounds", checkUnwrap(t, "at the bounds", text), impl.FrameRead{From: 1<<32 - 1, Frame: f})
	}
}

func randomWrap(rng *rand.Rand) (f impl.Frame, key int64, from int64, to int64) {
	bytes := make([]byte, oneOf(rng, 0, 1, 2, 3, 30, 255, 256, 1499, 1500))
	rng.Read(bytes)
	f = netFrame(oneOf(rng, 0, 1, 4095, rng.Int63n(4096)), oneOf(rng, 0, everybody-1, rng.Int63n(everybody)), oneOf(rng, 0, everybody, everybody-1, rng.Int63n(everybody)), string(bytes))
	return f, oneOf(rng, 0, 1<<24-1, rng.Int63n(1<<24)), oneOf(rng, 0, 1<<32-1, rng.Int63n(1<<32)), oneOf(rng, 0, 1<<32-1, rng.Int63n(1<<32))
}

func TestP32UnwrappedAsItWasWrapped(t *testing.T) {
	rng := rand.New(rand.NewSource(1632))
	for n := range 5000 {
		f, key, from, to := randomWrap(rng)
		what := fmt.Sprintf("frame %d", n)
		text := checkWrap(t, what, f, key, from, to)
		checkEqual(t, what, impl.UnwrapFrame(text), impl.FrameRead{Key: key, From: from, To: to, Frame: f})
		if t.Failed() {
			return
		}
	}
}

func checkOtherWrapByte(t *testing.T, text string, at int, other byte) {
	t.Helper()
	if text[at] == other {
		return
	}
	changed := text[:at] + string([]byte{other}) + text[at+1:]
	what := fmt.Sprintf("byte %d of %d is %d", at, len(text), other)
	got := checkUnwrap(t, what, changed)
	if got.Code == impl.OK {
		t.Errorf("%s: no code", what)
	}
}

// Every byte of some texts as every other one, and bytes of many texts as some other one.
func TestP32OneByteAnother(t *testing.T) {
	for _, f := range []impl.Frame{{}, netFrame(4, 258, 3, "abc"), netFrame(4095, everybody-1, everybody, "\xff\xfe\x00\x01 and more")} {
		for _, key := range []int64{0, 7, 1<<24 - 1} {
			text := impl.WrapFrame(f, key, key<<8, 9)
			for at := range len(text) {
				for other := range 256 {
					checkOtherWrapByte(t, text, at, byte(other))
				}
			}
		}
	}
	rng := rand.New(rand.NewSource(1633))
	for range 1000 {
		text := impl.WrapFrame(randomWrap(rng))
		for range 20 {
			checkOtherWrapByte(t, text, rng.Intn(len(text)), byte(rng.Intn(256)))
		}
	}
}

// What is read from whatever text without a code is a right frame, and is wrapped to that text again.
func TestUnwrapFrameOfWhateverText(t *testing.T) {
	rng := rand.New(rand.NewSource(1634))
	codes := map[int64]int{}
	for range 20000 {
		f, key, from, to := randomWrap(rng)
		f.Text = f.Text[:min(len(f.Text), 30)]
		if rng.Intn(10) == 0 {
			f.Src, f.Net = oneOf(rng, f.Src, everybody), oneOf(rng, f.Net, 4096, 65535)
		}
		bytes := []byte(plainWrapHead(f, key, from, to, len(f.Text)) + f.Text)
		for range rng.Intn(3) {
			bytes[rng.Intn(len(bytes))] = byte(oneOf(rng, 0, 1, 15, 16, 255, rng.Int63n(256)))
		}
		text := withWrapSum(string(bytes))
		switch rng.Intn(8) {
		case 0:
			text = text[:rng.Intn(len(text))]
		case 1:
			text += strings.Repeat("x", rng.Intn(3))
		case 2:
			text = string(bytes) + "abcd"
		}
		got := checkUnwrap(t, fmt.Sprintf("%q", text), text)
		if got.Code == impl.OK {
			checkNumber(t, fmt.Sprintf("%q: FrameFault", text), impl.FrameFault(got.Frame), impl.OK)
			checkText(t, "wrapped again", impl.WrapFrame(got.Frame, got.Key, got.From, got.To), text)
		}
		codes[got.Code]++
		if t.Failed() {
			return
		}
	}
	for _, code := range []int64{impl.OK, impl.ErrSyntax, impl.ErrSum, impl.ErrForm} {
		if codes[code] < 500 {
			t.Errorf("code %d came %d times", code, codes[code])
		}
	}
}

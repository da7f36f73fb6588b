package tests

import (
	"fmt"
	"math"
	"math/rand"
	"slices"
	"strings"
	"testing"

	"loop.example/g00038/impl"
)

func checkQuoteOf(t *testing.T, what string, secret int64, nonce string, regs []int64) impl.Quote {
	t.Helper()
	were := slices.Clone(regs)
	got := impl.QuoteOf(secret, nonce, regs)
	checkEqual(t, what+": QuoteOf", got, plainQuote(secret, nonce, regs))
	checkNumbers(t, what+": the registers handed in", regs, were)
	return got
}

func checkQuoteTaken(t *testing.T, what string, public int64, nonce string, regs []int64, q impl.Quote, want bool) {
	t.Helper()
	were := slices.Clone(regs)
	checkEqual(t, what+": CheckQuote", impl.CheckQuote(public, nonce, regs, q), want)
	checkEqual(t, what+": the plain one", plainCheckQuote(public, nonce, regs, q), want)
	checkNumbers(t, what+": the registers handed in", regs, were)
}

func someSecrets() []int64 {
	return []int64{1, 2, 3, 15, 16, 77, 123456789, impl.SealOrder / 2, impl.SealOrder - 2, impl.SealOrder - 1}
}

func noSecrets() []int64 {
	return []int64{0, -1, -2, -77, impl.SealOrder, impl.SealOrder + 1, impl.SealPrime, 1 << 32, 1<<32 + 1, 1 << 62, math.MinInt64, math.MaxInt64}
}

func TestPublicOf(t *testing.T) {
	for secret, want := range map[int64]int64{1: 4, 2: 16, 15: 1 << 30, 16: 1770, 77: 629826455, 123456789: 612907881, 536870690: 1073741381, impl.SealOrder - 1: 536870691} {
		checkNumber(t, fmt.Sprintf("PublicOf(%d)", secret), impl.PublicOf(secret), want)
	}
	rng := rand.New(rand.NewSource(1507))
	for range 3000 {
		secret := 1 + rng.Int63n(impl.SealOrder-1)>>rng.Intn(30)
		checkNumber(t, fmt.Sprintf("PublicOf(%d)", secret), impl.PublicOf(secret), plainPublic(secret))
	}
	for _, secret := range noSecrets() {
		checkNumber(t, fmt.Sprintf("PublicOf(%d)", secret), impl.PublicOf(secret), 0)
	}
}

// The wanted numbers come from another program, which was written from the document's words.
func TestQuoteKnown(t *testing.T) {
	for _, c := range []struct {
		secret int64
		nonce  string
		regs   []int64
		want   impl.Quote
	}{
		{77, "n", []int64{5, 6}, impl.Quote{R: 700985730, Z: 593897668}},
		{1, "", []int64{0}, impl.Quote{R: 1214661282, Z: 191964386}},
		{impl.SealOrder - 1, "nonce", slices.Repeat([]int64{1<<32 - 1}, 8), impl.Quote{R: 1936224105, Z: 695324502}},
		{123456789, bytes0(100), []int64{1, 2, 3}, impl.Quote{R: 759125233, Z: 932106442}},
	} {
		what := fmt.Sprintf("secret %d, nonce %.10q", c.secret, c.nonce)
		checkEqual(t, what, checkQuoteOf(t, what, c.secret, c.nonce, c.regs), c.want)
		checkQuoteTaken(t, what, impl.PublicOf(c.secret), c.nonce, c.regs, c.want, true)
	}
}

// These nonces were looked for: with them k is the least and the greatest that it may be.
func TestQuoteAtTheEndsOfK(t *testing.T) {
	for nonce, r := range map[string]int64{"ak\x00Sj": 4, "am\xf4\x89i": 4, "b\xc7C\x1bt": 536870691} {
		q := checkQuoteOf(t, "an end of k", 1, nonce, []int64{0})
		checkNumber(t, "an end of k: R", q.R, r)
		checkQuoteTaken(t, "an end of k", 4, nonce, []int64{0}, q, true)
	}
}

func TestQuoteThatIsNone(t *testing.T) {
	long := strings.Repeat("n", impl.MaxSeal+1)
	public := impl.PublicOf(77)
	for _, secret := range noSecrets() {
		what := fmt.Sprintf("secret %d", secret)
		checkEqual(t, what, checkQuoteOf(t, what, secret, "n", []int64{5}), impl.Quote{})
	}
	wrong := wrongRegisters()
	wrong["1001 registers"] = make([]int64, 1001)
	for what, regs := range wrong {
		checkEqual(t, what, checkQuoteOf(t, what, 77, "n", regs), impl.Quote{})
		checkQuoteTaken(t, what, public, "n", regs, impl.QuoteOf(77, "n", []int64{5}), false)
	}
	for _, size := range []int{0, 1, impl.MaxSeal - 1, impl.MaxSeal} {
		what := fmt.Sprintf("a nonce of %d bytes", size)
		checkQuoteTaken(t, what, public, long[:size], []int64{5}, checkQuoteOf(t, what, 77, long[:size], []int64{5}), true)
	}
	for _, nonce := range []string{long, strings.Repeat("n", impl.MaxBytes+1)} {
		what := fmt.Sprintf("a nonce of %d bytes", len(nonce))
		checkEqual(t, what, checkQuoteOf(t, what, 77, nonce, []int64{5}), impl.Quote{})
		checkQuoteTaken(t, what, public, nonce, []int64{5}, longQuote(77, nonce, []int64{5}), false)
	}
	checkQuoteTaken(t, "nothing", 0, "", nil, impl.Quote{}, false)
}

// longQuote is what would be quoted if the nonce might have any length.
func longQuote(secret int64, nonce string, regs []int64) impl.Quote {
	e := impl.Mix(fourBytes(4)+fourBytesEach(regs)+nonce, 42) % plainOrder
	return impl.Quote{R: 4, Z: (1 + e*secret) % plainOrder}
}

func TestCheckQuoteOfPublics(t *testing.T) {
	regs := []int64{5, 6}
	q := impl.QuoteOf(77, "n", regs)
	public := impl.PublicOf(77)
	checkQuoteTaken(t, "its own", public, "n", regs, q, true)
	for _, other := range []int64{0, 1, -1, 2, 3, 4, public - 1, public + 1, impl.SealPrime - public, public + impl.SealPrime, public - impl.SealPrime, public + 1<<32, impl.SealPrime - 1, impl.SealPrime, impl.SealPrime + 1, math.MinInt64, math.MaxInt64} {
		checkQuoteTaken(t, fmt.Sprintf("public %d", other), other, "n", regs, q, false)
	}
}

// A public number is refused where it is 1, or not 1 to the power SealOrder, though all else would fit.
func TestCheckQuoteOfPublicsThatAreNone(t *testing.T) {
	regs := []int64{5, 6}
	checkQuoteTaken(t, "public 1", 1, "n", regs, impl.Quote{R: 4, Z: 1}, false)
	checkQuoteTaken(t, "public SealPrime + 1", impl.SealPrime+1, "n", regs, impl.Quote{R: 4, Z: 1}, false)
	met := 0
	for nonce := range 200 {
		text := fmt.Sprint(nonce)
		e := impl.Mix(fourBytes(4)+fourBytesEach(regs)+text, 42) % plainOrder
		if e%2 == 1 {
			continue
		}
		met++
		// SealPrime - 1 to an even power is 1, so that R alone tells Z.
		checkQuoteTaken(t, "public SealPrime - 1", impl.SealPrime-1, text, regs, impl.Quote{R: 4, Z: 1}, false)
		// Of a public number's other half, the sign goes at an even power.
		public := plainPower(4, 77)
		q := impl.Quote{R: 4, Z: (1 + e*77) % plainOrder}
		checkQuoteTaken(t, "a public number", public, text, regs, q, true)
		checkQuoteTaken(t, "its other half", plainPrime-public, text, regs, q, false)
		checkQuoteTaken(t, "one round more", plainPrime+public, text, regs, q, false)
	}
	if met < 50 {
		t.Errorf("only %d nonces were met with", met)
	}
}

func TestCheckQuoteOfBounds(t *testing.T) {
	regs := []int64{5, 6}
	public := impl.PublicOf(77)
	q := impl.QuoteOf(77, "n", regs)
	for _, z := range []int64{-1, 0, 1, q.Z - 1, q.Z + 1, q.Z - impl.SealOrder, q.Z + impl.SealOrder, q.Z + 2*impl.SealOrder, q.Z + 1<<32, impl.SealOrder - 1, impl.SealOrder, impl.SealOrder + 1, math.MinInt64, math.MaxInt64} {
		checkQuoteTaken(t, fmt.Sprintf("Z %d", z), public, "n", regs, impl.Quote{R: q.R, Z: z}, false)
	}
	for _, r := range []int64{-1, 0, 1, q.R - 1, q.R + 1, -q.R, q.R - impl.SealPrime, q.R + impl.SealPrime, impl.SealPrime - q.R, q.R + 1<<32, impl.SealPrime - 1, impl.SealPrime, math.MinInt64, math.MaxInt64} {
		checkQuoteTaken(t, fmt.Sprintf("R %d", r), public, "n", regs, impl.Quote{R: r, Z: q.Z}, false)
	}
}

// At the bounds of R and Z are quotes that are taken, which nobody else than this test makes.
func TestCheckQuoteAtTheBounds(t *testing.T) {
	regs, secret := []int64{5, 6}, int64(77)
	public := impl.PublicOf(secret)
	// R is 1 with k = 0.
	e := impl.Mix(fourBytes(1)+fourBytesEach(regs)+"n", 42) % plainOrder
	checkQuoteTaken(t, "R 1", public, "n", regs, impl.Quote{R: 1, Z: e * secret % plainOrder}, true)
	// Beyond its bounds an R would fit that is 4 modulo SealPrime.
	for _, r := range []int64{4, 4 + plainPrime, 4 + 2*plainPrime, 4 - plainPrime, 4 - 2*plainPrime} {
		e := impl.Mix(fourBytes(r)+fourBytesEach(regs)+"n", 42) % plainOrder
		checkQuoteTaken(t, fmt.Sprintf("R %d", r), public, "n", regs, impl.Quote{R: r, Z: (1 + e*secret) % plainOrder}, r == 4)
	}
	// R and e are what they are whatever is wanted of Z, so that a secret is looked for by which Z is at its bounds.
	for _, z := range []int64{0, plainOrder - 1} {
		e := impl.Mix(fourBytes(4)+fourBytesEach(regs)+"n", 42) % plainOrder
		other := (z + plainOrder - 1) % plainOrder * orderInverse(e) % plainOrder
		checkQuoteTaken(t, fmt.Sprintf("Z %d", z), impl.PublicOf(other), "n", regs, impl.Quote{R: 4, Z: z}, true)
		checkQuoteTaken(t, fmt.Sprintf("Z %d and a round more", z), impl.PublicOf(other), "n", regs, impl.Quote{R: 4, Z: z + plainOrder}, false)
		checkQuoteTaken(t, fmt.Sprintf("Z %d and a round less", z), impl.PublicOf(other), "n", regs, impl.Quote{R: 4, Z: z - plainOrder}, false)
	}
}

// orderInverse is what makes 1 of n, modulo SealOrder, which is a prime.
func orderInverse(n int64) int64 {
	inverse := int64(1)
	for exponent := int64(plainOrder - 2); exponent > 0; exponent /= 2 {
		if exponent%2 == 1 {
			inverse = inverse * n % plainOrder
		}
		n = n * n % plainOrder
	}
	return inverse
}

func TestCheckQuoteOfOtherThings(t *testing.T) {
	regs := []int64{5, 6}
	public := impl.PublicOf(77)
	q := checkQuoteOf(t, "a quote", 77, "nonce", regs)
	for _, nonce := range []string{"", "n", "nonce\x00", "Nonce", "nonc", "noncf"} {
		checkQuoteTaken(t, "nonce "+nonce, public, nonce, regs, q, false)
	}
	for _, other := range [][]int64{{5}, {6}, {6, 5}, {5, 7}, {4, 6}, {5, 6, 0}, {0, 5, 6}, {5, 6, 5, 6}} {
		checkQuoteTaken(t, fmt.Sprintf("registers %v", other), public, "nonce", other, q, false)
	}
	checkQuoteTaken(t, "the quote of another secret", public, "nonce", regs, impl.QuoteOf(78, "nonce", regs), false)
	checkQuoteTaken(t, "no quote", public, "nonce", regs, impl.Quote{}, false)
}

func TestP29QuotesAreTaken(t *testing.T) {
	rng := rand.New(rand.NewSource(1529))
	for n := range 1500 {
		secret, nonce, regs := 1+rng.Int63n(impl.SealOrder-1), randomBytes(rng, rng.Intn(30)), randomRegisters(rng)
		if n < 10*len(someSecrets()) {
			secret = someSecrets()[n%len(someSecrets())]
		}
		what := fmt.Sprintf("quote %d of secret %d", n, secret)
		q := checkQuoteOf(t, what, secret, nonce, regs)
		public := impl.PublicOf(secret)
		checkNumber(t, what+": PublicOf", public, plainPublic(secret))
		checkQuoteTaken(t, what, public, nonce, regs, q, true)
		for _, z := range []int64{(q.Z + 1) % impl.SealOrder, (q.Z + impl.SealOrder - 1) % impl.SealOrder, impl.SealOrder - q.Z, rng.Int63n(impl.SealOrder), q.Z + impl.SealOrder, q.Z - impl.SealOrder, rng.Int63() - rng.Int63()} {
			if z != q.Z {
				checkQuoteTaken(t, what+", another Z", public, nonce, regs, impl.Quote{R: q.R, Z: z}, false)
			}
		}
		other := slices.Clone(regs)
		other[rng.Intn(len(other))] ^= 1 << rng.Intn(32)
		checkQuoteTaken(t, what+", another register", public, nonce, other, q, false)
		checkQuoteTaken(t, what+", another nonce", public, nonce+"\x00", regs, q, false)
	}
}

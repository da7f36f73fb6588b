package tests

import (
	"fmt"
	"math"
	"math/rand"
	"strings"
	"testing"

	"loop.example/g00038/impl"
)

type somePlace struct {
	what   string
	mem    string
	frames []int64
	host   string
}

// inARow has the numbers from first on.
func inARow(first int64, count int) []int64 {
	var row []int64
	for n := range int64(count) {
		row = append(row, first+n)
	}
	return row
}

// wrongLays have one fault each.
func wrongLays() []somePlace {
	two, four := filledMemory(2), emptyMemory(4)
	return []somePlace{
		{"no memory", "", nil, four},
		{"no memory and a frame", "", []int64{1}, four},
		{"part of a frame", two[1:], []int64{1, 2}, four},
		{"a byte more", two + "a", []int64{1, 2}, four},
		{"memory too great", filledMemory(257), inARow(0, 257), filledMemory(256)},
		{"no host", two, []int64{0, 1}, ""},
		{"a host of part of a frame", two, []int64{0, 1}, four[1:]},
		{"a host of a byte more", two, []int64{0, 1}, four + "a"},
		{"a host too great", two, []int64{0, 1}, filledMemory(257)},
		{"no frames", two, nil, four},
		{"an empty list", two, []int64{}, four},
		{"too few", two, []int64{1}, four},
		{"too many", two, []int64{1, 2, 3}, four},
		{"one below 0", two, []int64{1, -1}, four},
		{"the least", two, []int64{math.MinInt64, 1}, four},
		{"one behind the last", two, []int64{4, 1}, four},
		{"the greatest", two, []int64{1, math.MaxInt64}, four},
		{"one behind the last of a host of MaxFrames", two, []int64{0, 256}, filledMemory(256)},
		{"two alike", two, []int64{1, 1}, four},
		{"two alike that are not neighbours", filledMemory(3), []int64{1, 2, 1}, four},
		{"more than the host has", filledMemory(5), inARow(0, 5), four},
		{"MaxFrames and one", filledMemory(256), inARow(0, 257), filledMemory(256)},
		{"MaxList", two, inARow(0, 1000), four},
		{"more than MaxList", two, inARow(0, 1001), four},
	}
}

func rightLays() []somePlace {
	return []somePlace{
		{"one frame", filledMemory(1), []int64{0}, emptyMemory(1)},
		{"the last one", filledMemory(1), []int64{3}, emptyMemory(4)},
		{"another order", filledMemory(4), []int64{3, 0, 2, 1}, emptyMemory(4)},
		{"with gaps", filledMemory(2), []int64{5, 1}, filledMemory(7)},
		{"at the end of the greatest host", filledMemory(2), []int64{255, 254}, filledMemory(256)},
		{"MaxFrames", filledMemory(256), inARow(0, 256), emptyMemory(256)},
	}
}

func TestPlaceFault(t *testing.T) {
	for _, p := range wrongLays() {
		checkNumber(t, p.what, impl.PlaceFault(p.mem, p.frames, p.host), impl.ErrForm)
	}
	for _, p := range rightLays() {
		checkNumber(t, p.what, impl.PlaceFault(p.mem, p.frames, p.host), impl.OK)
	}
}

func TestLayMemoryRefusesWrongPlaces(t *testing.T) {
	for _, p := range wrongLays() {
		checkText(t, p.what, impl.LayMemory(p.mem, p.frames, p.host), "")
	}
}

func TestLayMemoryAtItsBounds(t *testing.T) {
	for _, p := range rightLays() {
		laid := impl.LayMemory(p.mem, p.frames, p.host)
		checkText(t, p.what, laid, plainLaid(p.mem, p.frames, p.host))
		checkText(t, p.what+": taken", impl.TakeMemory(p.frames, laid), p.mem)
	}
	a, b := strings.Repeat("a", 256), strings.Repeat("b", 256)
	checkText(t, "frame by frame", impl.LayMemory(a+b, []int64{2, 0}, emptyMemory(3)), b+emptyMemory(1)+a)
	checkText(t, "others stay", impl.LayMemory(a, []int64{1}, b+b+b), b+a+b)
}

func TestTakeMemory(t *testing.T) {
	a, b, c := strings.Repeat("a", 256), strings.Repeat("b", 256), strings.Repeat("c", 256)
	checkText(t, "one", impl.TakeMemory([]int64{1}, a+b+c), b)
	checkText(t, "in another order", impl.TakeMemory([]int64{2, 0, 1}, a+b+c), c+a+b)
	checkText(t, "all of the greatest", impl.TakeMemory(inARow(0, 256), filledMemory(256)), filledMemory(256))
	for what, frames := range map[string][]int64{
		"none": nil, "an empty list": {}, "one below 0": {0, -1}, "the least": {math.MinInt64}, "one behind the last": {3},
		"the greatest": {math.MaxInt64}, "two alike": {1, 1}, "two apart": {0, 1, 0}, "too many": inARow(0, 257),
		"MaxList": inARow(0, 1000), "more than MaxList": inARow(0, 1001),
	} {
		checkText(t, what, impl.TakeMemory(frames, a+b+c), "")
	}
	for _, host := range []string{"", "a", a[1:], a + "a", filledMemory(257), strings.Repeat("a", impl.MaxBytes+1)} {
		checkText(t, fmt.Sprintf("a host of %d bytes", len(host)), impl.TakeMemory([]int64{0}, host), "")
	}
	checkText(t, "more than MaxFrames of the greatest", impl.TakeMemory(append(inARow(0, 256), 0), filledMemory(256)), "")
}

func TestWhatIsLaidIsTaken(t *testing.T) {
	rng := rand.New(rand.NewSource(7))
	for range 60 {
		size := 1 + rng.Intn(40)
		host, mem := make([]byte, 256*size), make([]byte, 256*(1+rng.Intn(size)))
		rng.Read(host)
		rng.Read(mem)
		var frames []int64
		for _, place := range rng.Perm(size)[:len(mem)/256] {
			frames = append(frames, int64(place))
		}
		what := fmt.Sprintf("%v of %d", frames, size)
		laid := impl.LayMemory(string(mem), frames, string(host))
		checkText(t, what, laid, plainLaid(string(mem), frames, string(host)))
		checkText(t, what+": taken", impl.TakeMemory(frames, laid), string(mem))
	}
}

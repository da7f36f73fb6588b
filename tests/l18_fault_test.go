package tests

import (
	"fmt"
	"math"
	"math/rand"
	"slices"
	"testing"

	"loop.example/g00038/impl"
)

// sampleVcpus are right on 4 real processors and more.
func sampleVcpus() []impl.Vcpu {
	return []impl.Vcpu{
		{Guest: 3, Weight: 100, Mask: 1, Awake: true, Credit: 50, Ran: 7},
		{Guest: 3, Weight: 256, Cap: 4, Mask: 15, Awake: true, Used: 3},
		{Guest: 7, Weight: 1, Mask: 6, Credit: -20, Stolen: 9},
		{Guest: 99, Weight: 1000, Cap: 10, Mask: 8, Awake: true, Credit: 2000},
		{Weight: 30, Mask: 12, Awake: true},
	}
}

// checkVcpusFault holds all four calls to one list.
func checkVcpusFault(t *testing.T, what string, l []impl.Vcpu, pcpus int64, right bool) {
	t.Helper()
	before := slices.Clone(l)
	checkNumber(t, what+": VcpusFault", impl.VcpusFault(l, pcpus), faultCode(right))
	checkVcpus(t, what+": what was handed in", l, before)
	for _, way := range schedWays() {
		for _, quanta := range []int64{0, 12} {
			got := checkSched(t, what, schedAsk{way: way, l: l, pcpus: pcpus, quanta: quanta})
			if len(l) <= 1000 {
				checkNumber(t, what+": "+way, got.Code, faultCode(right))
			}
		}
	}
}

func TestVcpusFaultOfPcpus(t *testing.T) {
	for pcpus, right := range withEnds(map[int64]bool{-1: false, 0: false, 1: true, 2: true, 7: true, 8: true, 9: false, 64: false, 65: false}) {
		what := fmt.Sprintf("pcpus %d", pcpus)
		checkVcpusFault(t, what+", no virtual one", nil, pcpus, right)
		checkVcpusFault(t, what, []impl.Vcpu{{Weight: 1, Mask: 1, Awake: true}}, pcpus, right)
	}
}

func TestVcpusFaultOfHowMany(t *testing.T) {
	one := impl.Vcpu{Weight: 1, Mask: 1, Awake: true}
	for count, right := range map[int]bool{0: true, 1: true, 15: true, 16: true, 17: false, 999: false, 1000: false, 1001: false, 5000: false} {
		l := slices.Repeat([]impl.Vcpu{one}, count)
		checkVcpusFault(t, fmt.Sprintf("%d virtual ones", count), l, 8, right)
		for _, way := range schedWays() {
			want := faultCode(right)
			if count > 1000 {
				want = impl.ErrSize
			}
			checkNumber(t, fmt.Sprintf("%s of %d", way, count), schedAsk{way: way, l: l, pcpus: 8, quanta: 1}.run().Code, want)
		}
	}
	checkVcpusFault(t, "an empty list", []impl.Vcpu{}, 1, true)
}

// checkField puts each number at the first, a middle and the last place, since each is looked at.
func checkField(t *testing.T, name string, bounds map[int64]bool, field func(v *impl.Vcpu) *int64) {
	t.Helper()
	for n, right := range withEnds(bounds) {
		for _, at := range []int{0, 2, 4} {
			l := sampleVcpus()
			*field(&l[at]) = n
			checkVcpusFault(t, fmt.Sprintf("%s %d at %d", name, n, at), l, 4, right)
		}
	}
}

func TestVcpusFaultOfFields(t *testing.T) {
	checkVcpusFault(t, "the sample", sampleVcpus(), 4, true)
	checkField(t, "Guest", map[int64]bool{-1: false, 0: true, 1: true, 98: true, 99: true, 100: false}, func(v *impl.Vcpu) *int64 { return &v.Guest })
	checkField(t, "Weight", map[int64]bool{-1: false, 0: false, 1: true, 2: true, 999: true, 1000: true, 1001: false}, func(v *impl.Vcpu) *int64 { return &v.Weight })
	checkField(t, "Cap", map[int64]bool{-1: false, 0: true, 1: true, 9: true, 10: true, 11: false}, func(v *impl.Vcpu) *int64 { return &v.Cap })
	checkField(t, "Used", map[int64]bool{-1: false, 0: true, 1: true, 9: true, 10: true, 11: false}, func(v *impl.Vcpu) *int64 { return &v.Used })
	checkField(t, "Credit", map[int64]bool{-1<<40 - 1: false, -1 << 40: true, 1 - 1<<40: true, -1: true, 0: true, 1<<40 - 1: true, 1 << 40: true, 1<<40 + 1: false}, func(v *impl.Vcpu) *int64 { return &v.Credit })
	counts := map[int64]bool{-1: false, 0: true, 1: true, 1<<40 - 1: true, 1 << 40: true, 1<<40 + 1: false}
	checkField(t, "Ran", counts, func(v *impl.Vcpu) *int64 { return &v.Ran })
	checkField(t, "Stolen", counts, func(v *impl.Vcpu) *int64 { return &v.Stolen })
}

func TestVcpusFaultOfMasks(t *testing.T) {
	for pcpus := int64(1); pcpus <= 8; pcpus++ {
		last := int64(1) << (pcpus - 1)
		bounds := withEnds(map[int64]bool{-1: false, -last: false, 0: false, 1: true, last: true, 2*last - 1: true, 2 * last: false, 2*last + 1: false, 4*last - 1: false, 4 * last: false, 1 << 62: false, 1<<62 | 1: false})
		for mask, right := range bounds {
			for _, at := range []int{0, 1, 2} {
				l := slices.Repeat([]impl.Vcpu{{Weight: 5, Mask: 1, Awake: true}}, 3)
				l[at].Mask = mask
				checkVcpusFault(t, fmt.Sprintf("Mask %d at %d, pcpus %d", mask, at, pcpus), l, pcpus, right)
			}
		}
	}
}

// What comes of a run may be above the bounds of what is handed in.
func TestCountsGoAboveTheirBounds(t *testing.T) {
	l := []impl.Vcpu{{Weight: 1, Mask: 1, Awake: true, Credit: 1 << 40, Ran: 1 << 40, Stolen: 1 << 40}, {Guest: 1, Weight: 1, Mask: 1, Awake: true, Credit: 1 << 40, Ran: 1 << 40, Stolen: 1 << 40}}
	for _, way := range schedWays() {
		got := checkSched(t, "at the bounds", schedAsk{way: way, l: l, pcpus: 1, quanta: 1})
		checkNumbers(t, way+": Ran, Stolen", []int64{got.Vcpus[0].Ran, got.Vcpus[1].Stolen}, []int64{1<<40 + 1, 1<<40 + 1})
		checkNumber(t, way+": not right any more", impl.VcpusFault(got.Vcpus, 1), impl.ErrForm)
	}
	checkNumber(t, "Credit", impl.RunFair(l, 1, nil, 1).Vcpus[0].Credit, 1<<40+1000000)
}

func TestSchedulersRefuseQuanta(t *testing.T) {
	for quanta, right := range withEnds(map[int64]bool{-1: false, 0: true, 1: true, 99: true, 100: true, 101: false, 1000: false}) {
		for _, way := range schedWays() {
			for what, l := range map[string][]impl.Vcpu{"nobody": nil, "some": sampleVcpus()} {
				got := checkSched(t, what, schedAsk{way: way, l: l, pcpus: 4, quanta: quanta})
				checkNumber(t, fmt.Sprintf("%s, %d quanta", way, quanta), got.Code, faultCode(right))
				if right {
					checkNumber(t, "Picks", int64(len(got.Picks)), 4*quanta)
				}
			}
		}
	}
}

func TestSchedulersRefuseWakes(t *testing.T) {
	good := impl.WakeOp{At: 1, Vcpu: 2, Awake: true}
	for _, way := range schedWays() {
		check := func(what string, w impl.WakeOp, right bool) {
			t.Helper()
			for at := range 3 {
				wakes := []impl.WakeOp{good, good, good}
				wakes[at] = w
				for _, quanta := range []int64{0, 5} {
					got := checkSched(t, what, schedAsk{way: way, l: sampleVcpus(), pcpus: 4, wakes: wakes, quanta: quanta})
					checkNumber(t, way+": "+what, got.Code, faultCode(right))
				}
			}
		}
		for at, right := range map[int64]bool{math.MinInt64: false, -1: false, 0: true, 4: true, 5: true, 6: true, 100: true, 101: true, math.MaxInt64: true} {
			check(fmt.Sprintf("At %d", at), impl.WakeOp{At: at, Vcpu: 1}, right)
		}
		for number, right := range withEnds(map[int64]bool{-1: false, 0: true, 4: true, 5: false, 6: false, 16: false}) {
			check(fmt.Sprintf("Vcpu %d", number), impl.WakeOp{At: 1, Vcpu: number}, right)
			check(fmt.Sprintf("Vcpu %d, behind the last quantum", number), impl.WakeOp{At: 999, Vcpu: number}, right)
		}
		nobodyThere := schedAsk{way: way, pcpus: 4, wakes: []impl.WakeOp{{}}, quanta: 5}
		checkNumber(t, way+": a wake of none", checkSched(t, "none", nobodyThere).Code, impl.ErrForm)
	}
}

// Size comes ahead of all else that is wrong.
func TestSchedulersRefuseWhatIsTooLong(t *testing.T) {
	for _, way := range schedWays() {
		for count, code := range map[int]int64{999: impl.OK, 1000: impl.OK, 1001: impl.ErrSize, 3000: impl.ErrSize} {
			wakes := slices.Repeat([]impl.WakeOp{{At: 1, Vcpu: 2, Awake: true}}, count)
			good := schedAsk{way: way, l: sampleVcpus(), pcpus: 4, wakes: wakes, quanta: 5}
			checkNumber(t, fmt.Sprintf("%s, %d wakes", way, count), checkSched(t, "wakes", good).Code, code)
			wrong := schedAsk{way: way, l: sampleVcpus(), pcpus: -1, wakes: slices.Repeat([]impl.WakeOp{{At: -1, Vcpu: -1}}, count), quanta: -1, turn: -1}
			checkNumber(t, fmt.Sprintf("%s, %d wakes, all wrong", way, count), checkSched(t, "wrong", wrong).Code, max(code, impl.ErrForm))
		}
		long := schedAsk{way: way, l: make([]impl.Vcpu, 1001), pcpus: -1, wakes: []impl.WakeOp{{At: -1}}, quanta: -1, turn: -1}
		checkNumber(t, way+", 1001 virtual ones, all wrong", checkSched(t, "long", long).Code, impl.ErrSize)
		long.l = long.l[:1000]
		checkNumber(t, way+", 1000 virtual ones, all wrong", checkSched(t, "long", long).Code, impl.ErrForm)
	}
}

func TestRunGangRefusesTurns(t *testing.T) {
	for turn, right := range withEnds(map[int64]bool{-1: false, 0: true, 1: true, 98: true, 99: true, 100: false, 101: false}) {
		for _, quanta := range []int64{0, 3} {
			got := checkSched(t, "turn", schedAsk{way: gangWay, l: sampleVcpus(), pcpus: 4, quanta: quanta, turn: turn})
			checkNumber(t, fmt.Sprintf("turn %d", turn), got.Code, faultCode(right))
			if right && quanta == 0 {
				checkNumber(t, "Turn stays", got.Turn, turn)
			}
		}
	}
}

// vcpuFields are those with bounds of one of a list.
func vcpuFields(v *impl.Vcpu) []*int64 {
	return []*int64{&v.Guest, &v.Weight, &v.Cap, &v.Mask, &v.Credit, &v.Used, &v.Ran, &v.Stolen}
}

func TestVcpusFaultOfRandomLists(t *testing.T) {
	rng := rand.New(rand.NewSource(1801))
	wrong := 0
	for n := range 4000 {
		a := randomAsk(rng, schedWays()[n%3])
		a.quanta = min(a.quanta, 3)
		checkNumber(t, a.String(), impl.VcpusFault(a.l, a.pcpus), impl.OK)
		if len(a.l) > 0 {
			fields := vcpuFields(&a.l[rng.Intn(len(a.l))])
			*fields[rng.Intn(len(fields))] = oneOf(rng, math.MinInt64, -1<<40-1, -1<<40, -1, 0, 1, 2, 7, 10, 11, 99, 100, 255, 256, 1000, 1001, 1<<40, 1<<40+1, math.MaxInt64)
		}
		right := plainVcpus(a.l, a.pcpus)
		checkNumber(t, a.String(), impl.VcpusFault(a.l, a.pcpus), faultCode(right))
		checkSched(t, "a random list", a)
		if !right {
			wrong++
		}
		if t.Failed() {
			return
		}
	}
	if !among(int64(wrong), 800, 3200) {
		t.Errorf("%d of 4000 were wrong", wrong)
	}
}

package tests

import (
	"fmt"
	"slices"
	"testing"

	"loop.example/g00038/impl"
)

// wakesAt are wakes of one quantum: n wakes number n, -n - 1 lets it sleep.
func wakesAt(at int64, numbers ...int64) []impl.WakeOp {
	var wakes []impl.WakeOp
	for _, n := range numbers {
		if n >= 0 {
			wakes = append(wakes, impl.WakeOp{At: at, Vcpu: n, Awake: true})
		} else {
			wakes = append(wakes, impl.WakeOp{At: at, Vcpu: -n - 1})
		}
	}
	return wakes
}

const (
	slept0 = -1
	slept1 = -2
	slept2 = -3
)

// awakeVcpus are that many of one Weight and Mask, each of a guest of its own.
func awakeVcpus(count int64, weight int64, mask int64) []impl.Vcpu {
	var l []impl.Vcpu
	for n := range count {
		l = append(l, impl.Vcpu{Guest: n, Weight: weight, Mask: mask, Awake: true})
	}
	return l
}

// fieldsOf tells one field of all.
func fieldsOf(l []impl.Vcpu, field func(v impl.Vcpu) int64) []int64 {
	var numbers []int64
	for _, v := range l {
		numbers = append(numbers, field(v))
	}
	return numbers
}

func creditsOf(l []impl.Vcpu) []int64 {
	return fieldsOf(l, func(v impl.Vcpu) int64 { return v.Credit })
}

func usedOf(l []impl.Vcpu) []int64 { return fieldsOf(l, func(v impl.Vcpu) int64 { return v.Used }) }

// schedWant is what a run is to tell; of all but the picks only what is not nil.
type schedWant struct {
	picks, ran, stolen, credits, used []int64
}

func checkSchedWant(t *testing.T, what string, a schedAsk, want schedWant) impl.SchedRun {
	t.Helper()
	got := checkSched(t, what, a)
	what += ": " + a.way
	checkNumber(t, what+": Code", got.Code, impl.OK)
	checkNumbers(t, what+": Picks", got.Picks, want.picks)
	ran := fieldsOf(got.Vcpus, func(v impl.Vcpu) int64 { return v.Ran })
	stolen := fieldsOf(got.Vcpus, func(v impl.Vcpu) int64 { return v.Stolen })
	for name, pair := range map[string][2][]int64{"Ran": {ran, want.ran}, "Stolen": {stolen, want.stolen}, "Credit": {creditsOf(got.Vcpus), want.credits}, "Used": {usedOf(got.Vcpus), want.used}} {
		if pair[1] != nil {
			checkNumbers(t, what+": "+name, pair[0], pair[1])
		}
	}
	return got
}

// checkAllWays is for what all three schedulers do alike.
func checkAllWays(t *testing.T, what string, a schedAsk, want schedWant) {
	t.Helper()
	for _, way := range schedWays() {
		a.way = way
		checkSchedWant(t, what, a, want)
	}
}

func TestSchedulersWithoutAnybodyAwake(t *testing.T) {
	idle := []int64{-1, -1, -1, -1, -1, -1}
	checkAllWays(t, "nobody there", schedAsk{pcpus: 2, quanta: 3}, schedWant{picks: idle})
	checkAllWays(t, "no quantum", schedAsk{l: awakeVcpus(2, 10, 3), pcpus: 2}, schedWant{ran: []int64{0, 0}, stolen: []int64{0, 0}, credits: []int64{0, 0}})
	asleep := []impl.Vcpu{{Weight: 1, Mask: 3, Credit: 7, Ran: 5, Stolen: 6}, {Weight: 1, Mask: 3, Credit: -7}}
	checkAllWays(t, "all asleep", schedAsk{l: asleep, pcpus: 2, quanta: 3}, schedWant{picks: idle, ran: []int64{5, 0}, stolen: []int64{6, 0}, credits: []int64{7, -7}})
	checkAllWays(t, "all go to sleep", schedAsk{l: awakeVcpus(2, 10, 3), pcpus: 2, wakes: wakesAt(0, slept0, slept1), quanta: 3}, schedWant{picks: idle, ran: []int64{0, 0}, stolen: []int64{0, 0}})
}

func TestMoreRealProcessorsThanVirtualOnesAndFewer(t *testing.T) {
	more := schedAsk{l: awakeVcpus(2, 10, 7), pcpus: 3, quanta: 2}
	for _, way := range schedWays() {
		more.way = way
		picks := []int64{0, 1, -1, 0, 1, -1}
		if way == gangWay {
			picks = []int64{0, 1, -1, 1, 0, -1}
		}
		checkSchedWant(t, "one is idle", more, schedWant{picks: picks, ran: []int64{2, 2}, stolen: []int64{0, 0}})
	}
	fewer := schedAsk{l: awakeVcpus(3, 10, 3), pcpus: 2, quanta: 3}
	fewer.way = creditWay
	checkSchedWant(t, "each in turn", fewer, schedWant{picks: []int64{0, 1, 2, 0, 1, 2}, ran: []int64{2, 2, 2}, stolen: []int64{1, 1, 1}, credits: []int64{466, 466, 466}})
	fewer.way = fairWay
	checkSchedWant(t, "each in turn", fewer, schedWant{picks: []int64{0, 1, 2, 0, 1, 2}, ran: []int64{2, 2, 2}, stolen: []int64{1, 1, 1}, credits: []int64{200000, 200000, 200000}})
	fewer.way = gangWay
	checkSchedWant(t, "from the next guest on", fewer, schedWant{picks: []int64{0, 1, 1, 2, 2, 0}, ran: []int64{2, 2, 2}, stolen: []int64{1, 1, 1}, credits: []int64{0, 0, 0}})
}

func TestMasksLeaveRealProcessorsIdle(t *testing.T) {
	l := awakeVcpus(3, 10, 4)
	l[2].Mask = 1
	for _, way := range []string{creditWay, fairWay} {
		checkSchedWant(t, "nobody for number 1", schedAsk{way: way, l: l, pcpus: 4, quanta: 2}, schedWant{picks: []int64{2, -1, 0, -1, 2, -1, 1, -1}, ran: []int64{1, 1, 2}, stolen: []int64{1, 1, 0}})
		// Number 1 could have had the last one; the first real one takes it all the same, as it is the first of two.
		both := awakeVcpus(2, 10, 1)
		both[0].Mask = 3
		checkSchedWant(t, "in order", schedAsk{way: way, l: both, pcpus: 2, quanta: 1}, schedWant{picks: []int64{0, -1}, ran: []int64{1, 0}, stolen: []int64{0, 1}})
	}
	checkSchedWant(t, "by gangs Masks count for nothing", schedAsk{way: gangWay, l: l, pcpus: 4, quanta: 1}, schedWant{picks: []int64{0, 1, 2, -1}})
}

func TestSeveralWakesInOneQuantum(t *testing.T) {
	one := awakeVcpus(1, 10, 1)
	for _, c := range []struct {
		what  string
		wakes []impl.WakeOp
		picks []int64
		stays bool
	}{
		{"to sleep and awake", wakesAt(1, slept0, 0), []int64{0, 0, 0}, true},
		{"awake and to sleep", wakesAt(1, 0, slept0), []int64{0, -1, -1}, false},
		{"to sleep, awake, to sleep", wakesAt(1, slept0, 0, slept0), []int64{0, -1, -1}, false},
		{"twice to sleep", wakesAt(1, slept0, slept0), []int64{0, -1, -1}, false},
		{"to sleep, later awake", slices.Concat(wakesAt(0, slept0), wakesAt(2, 0)), []int64{-1, -1, 0}, true},
		{"the later one told first", slices.Concat(wakesAt(2, 0), wakesAt(0, slept0)), []int64{-1, -1, 0}, true},
		{"of one quantum, with another between", slices.Concat(wakesAt(1, slept0), wakesAt(2, slept0), wakesAt(1, 0)), []int64{0, 0, -1}, false},
		{"at the last quantum", wakesAt(2, slept0), []int64{0, 0, -1}, false},
		{"behind the last quantum", wakesAt(3, slept0), []int64{0, 0, 0}, true},
		{"far behind it", wakesAt(1<<62, slept0), []int64{0, 0, 0}, true},
	} {
		for _, way := range schedWays() {
			got := checkSchedWant(t, c.what, schedAsk{way: way, l: one, pcpus: 1, wakes: c.wakes, quanta: 3}, schedWant{picks: c.picks, stolen: []int64{0}})
			checkEqual(t, c.what+": Awake", got.Vcpus[0].Awake, c.stays)
		}
	}
}

func TestCreditComesAtMultiplesOfAccount(t *testing.T) {
	l := []impl.Vcpu{{Weight: 5, Mask: 1, Awake: true, Credit: -2000, Used: 9}}
	for quanta, want := range map[int64][2]int64{0: {-2000, 9}, 1: {-1000, 1}, 2: {-1000, 2}, 9: {-1000, 9}, 10: {-1000, 10}, 11: {-100, 1}, 12: {-200, 2}, 20: {-1000, 10}, 21: {-100, 1}, 100: {-1000, 10}} {
		got := checkSched(t, "alone", schedAsk{way: creditWay, l: l, pcpus: 1, quanta: quanta})
		checkNumbers(t, fmt.Sprintf("%d quanta: Credit, Used", quanta), []int64{got.Vcpus[0].Credit, got.Vcpus[0].Used}, want[:])
	}
	// Who is woken at the quantum itself gets some, who is woken behind it gets none.
	two := awakeVcpus(2, 5, 1)
	two[0].Mask, two[1].Mask, two[1].Awake = 1, 2, false
	for at, want := range map[int64][2]int64{9: {800, 700}, 10: {800, 800}, 11: {800, -100}, 12: {800, 0}} {
		got := checkSched(t, "two", schedAsk{way: creditWay, l: two, pcpus: 2, wakes: wakesAt(at, 1), quanta: 12})
		checkNumbers(t, fmt.Sprintf("woken at %d: Credit", at), creditsOf(got.Vcpus), want[:])
	}
}

func TestCreditAtItsTop(t *testing.T) {
	for credit, half := range map[int64]int64{-2000: -1500, -1000: -500, 0: 500, 499: 999, 500: 1000, 501: 1000, 999: 1000, 1000: 1000, 1001: 1000, 1 << 40: 1000} {
		// The first one is picked, so that what the second one got stays to be seen; the third one is asleep.
		l := []impl.Vcpu{{Weight: 1, Mask: 1, Awake: true, Credit: 1 << 40}, {Weight: 1, Mask: 1, Awake: true, Credit: credit}, {Weight: 1, Mask: 1, Credit: credit}}
		what := fmt.Sprintf("Credit %d", credit)
		checkSchedWant(t, what, schedAsk{way: creditWay, l: l, pcpus: 1, quanta: 1}, schedWant{picks: []int64{0}, credits: []int64{900, half, credit}})
		checkSchedWant(t, what+", no quantum", schedAsk{way: creditWay, l: l, pcpus: 1}, schedWant{credits: []int64{1 << 40, credit, credit}})
	}
}

func TestCreditAtItsBottom(t *testing.T) {
	// Of the shares of Credit the one with Weight 1 gets 1 alone.
	for credit, want := range map[int64]int64{-1 << 40: -1000, -1002: -1000, -1001: -1000, -1000: -1000, -903: -1000, -902: -1000, -901: -1000, -900: -999, -899: -998, 0: -99} {
		l := []impl.Vcpu{{Weight: 1, Mask: 1, Awake: true, Credit: credit}, {Weight: 1000, Mask: 2, Awake: true}}
		got := checkSched(t, "bottom", schedAsk{way: creditWay, l: l, pcpus: 2, quanta: 1})
		checkNumbers(t, fmt.Sprintf("Credit %d", credit), creditsOf(got.Vcpus), []int64{want, 900})
	}
	low := []impl.Vcpu{{Weight: 1, Mask: 1, Awake: true, Credit: -1 << 40}, {Weight: 1, Mask: 1, Awake: true}}
	got := checkSched(t, "one who waits is below", schedAsk{way: creditWay, l: low, pcpus: 1, quanta: 9})
	checkNumbers(t, "one who waits is below", creditsOf(got.Vcpus), []int64{500 - 1<<40, -400})
}

func TestCreditIsShared(t *testing.T) {
	// One is picked, the first of those with the most; what the others got stays to be seen.
	for _, c := range []struct {
		weights []int64
		pcpus   int64
		shares  []int64
	}{
		{[]int64{1, 1, 1}, 1, []int64{333, 333, 333}},
		{[]int64{1, 2, 4}, 1, []int64{142, 285, 571}},
		{[]int64{1000, 1000, 999}, 1, []int64{333, 333, 333}},
		{[]int64{1, 999, 1}, 1, []int64{0, 998, 0}},
		{[]int64{1, 1000}, 1, []int64{0, 999}},
		{[]int64{3, 3, 3, 3, 3, 3, 3}, 2, []int64{285, 285, 285, 285, 285, 285, 285}},
		{[]int64{7, 70}, 8, []int64{727, 1000}},
	} {
		var l []impl.Vcpu
		for _, weight := range c.weights {
			l = append(l, impl.Vcpu{Weight: weight, Mask: 1, Awake: true})
		}
		first := slices.Index(c.shares, slices.Max(c.shares))
		want := slices.Clone(c.shares)
		want[first] -= 100
		got := checkSched(t, "shares", schedAsk{way: creditWay, l: l, pcpus: c.pcpus, quanta: 1})
		checkNumbers(t, fmt.Sprintf("Weights %v", c.weights), creditsOf(got.Vcpus), want)
	}
	asleep := []impl.Vcpu{{Weight: 1, Mask: 1, Awake: true}, {Weight: 1000, Mask: 1, Credit: 5000, Used: 4}, {Weight: 1, Mask: 1, Awake: true}}
	checkSchedWant(t, "who sleeps has no share, but no Used either", schedAsk{way: creditWay, l: asleep, pcpus: 1, quanta: 1}, schedWant{picks: []int64{0}, credits: []int64{400, 5000, 500}, used: []int64{1, 0, 0}})
}

func TestCreditHasCaps(t *testing.T) {
	for limit := range int64(11) {
		for _, used := range []int64{0, 1, 9, 10} {
			l := []impl.Vcpu{{Weight: 1, Cap: limit, Mask: 1, Awake: true, Used: used}}
			var want []int64
			for quantum := range int64(30) {
				pick := int64(0)
				if limit > 0 && quantum%10 >= limit {
					pick = -1
				}
				want = append(want, pick)
			}
			got := checkSched(t, "a Cap alone", schedAsk{way: creditWay, l: l, pcpus: 1, quanta: 30})
			checkNumbers(t, fmt.Sprintf("Cap %d, Used %d: Picks", limit, used), got.Picks, want)
			last := limit
			if limit == 0 {
				last = 10
			}
			v := got.Vcpus[0]
			checkNumbers(t, fmt.Sprintf("Cap %d: Used, Ran, Stolen", limit), []int64{v.Used, v.Ran, v.Stolen}, []int64{last, 3 * last, 30 - 3*last})
		}
	}
	// The one with the most Credit is passed over once it is at its Cap.
	l := []impl.Vcpu{{Weight: 900, Cap: 2, Mask: 1, Awake: true}, {Weight: 100, Cap: 3, Mask: 1, Awake: true}}
	checkSchedWant(t, "two Caps", schedAsk{way: creditWay, l: l, pcpus: 1, quanta: 11}, schedWant{picks: []int64{0, 0, 1, 1, 1, -1, -1, -1, -1, -1, 0}, ran: []int64{3, 3}, stolen: []int64{8, 8}, used: []int64{1, 0}})
}

func TestMostCreditIsPicked(t *testing.T) {
	l := []impl.Vcpu{{Weight: 1, Mask: 1, Awake: true, Credit: -300}, {Weight: 1, Mask: 1, Awake: true, Credit: -299}, {Weight: 1, Mask: 1, Awake: true, Credit: -299}, {Weight: 1, Mask: 1, Credit: 900}}
	checkSchedWant(t, "of several the first", schedAsk{way: creditWay, l: l, pcpus: 1, quanta: 4}, schedWant{picks: []int64{1, 2, 0, 1}, credits: []int64{-67, -166, -66, 900}})
	equal := awakeVcpus(4, 10, 7)
	checkSchedWant(t, "all alike", schedAsk{way: creditWay, l: equal, pcpus: 3, quanta: 2}, schedWant{picks: []int64{0, 1, 2, 3, 0, 1}})
}

func TestFairTakesTheLeastTime(t *testing.T) {
	l := []impl.Vcpu{{Weight: 1, Mask: 1, Awake: true, Credit: 6}, {Weight: 1, Mask: 1, Awake: true, Credit: 5}, {Weight: 1, Mask: 1, Awake: true, Credit: 5}, {Weight: 1, Mask: 1, Credit: -900}}
	checkSchedWant(t, "of several the first", schedAsk{way: fairWay, l: l, pcpus: 1, quanta: 4}, schedWant{picks: []int64{1, 2, 0, 1}, credits: []int64{1000006, 2000005, 1000005, -900}})
	low := []impl.Vcpu{{Weight: 1, Mask: 1, Awake: true, Credit: -1 << 40}, {Weight: 1, Mask: 1, Awake: true, Credit: 1 << 40}}
	checkSchedWant(t, "far apart", schedAsk{way: fairWay, l: low, pcpus: 1, quanta: 2}, schedWant{picks: []int64{0, 0}, credits: []int64{2000000 - 1<<40, 1 << 40}})
}

func TestFairTimeGrowsByWeight(t *testing.T) {
	for weight, turn := range map[int64]int64{1: 1000000, 2: 500000, 3: 333333, 7: 142857, 64: 15625, 90: 11111, 256: 3906, 997: 1003, 999: 1001, 1000: 1000} {
		for _, credit := range []int64{0, -1 << 40, 1 << 40} {
			l := []impl.Vcpu{{Weight: weight, Mask: 1, Awake: true, Credit: credit}}
			got := checkSched(t, "alone", schedAsk{way: fairWay, l: l, pcpus: 1, quanta: 3})
			checkNumber(t, fmt.Sprintf("Weight %d", weight), got.Vcpus[0].Credit, credit+3*turn)
		}
	}
}

// fairTimes are of Weight 1000, on one real processor, so that each turn is of 1000.
func fairTimes(times ...int64) []impl.Vcpu {
	l := awakeVcpus(int64(len(times)), 1000, 1)
	for n, time := range times {
		l[n].Credit = time
	}
	return l
}

func asleepAt(l []impl.Vcpu, numbers ...int) []impl.Vcpu {
	for _, n := range numbers {
		l[n].Awake = false
	}
	return l
}

func TestFairWakes(t *testing.T) {
	for _, c := range []struct {
		what    string
		l       []impl.Vcpu
		wakes   []impl.WakeOp
		pick    int64
		credits []int64
	}{
		{"with less than the least", asleepAt(fairTimes(10, 700, 500), 0), wakesAt(0, 0), 0, []int64{1500, 700, 500}},
		{"with as much", asleepAt(fairTimes(500, 700, 500), 0), wakesAt(0, 0), 0, []int64{1500, 700, 500}},
		{"with more", asleepAt(fairTimes(501, 700, 500), 0), wakesAt(0, 0), 2, []int64{501, 700, 1500}},
		{"with more than all", asleepAt(fairTimes(9000, 700, 500), 0), wakesAt(0, 0), 2, []int64{9000, 700, 1500}},
		{"those asleep do not count", asleepAt(fairTimes(10, 700, 500), 0, 2), wakesAt(0, 0), 0, []int64{1700, 700, 500}},
		{"nobody else awake", asleepAt(fairTimes(10, 700, 500), 0, 1, 2), wakesAt(0, 0), 0, []int64{1010, 700, 500}},
		{"nobody else there", asleepAt(fairTimes(-10), 0), wakesAt(0, 0), 0, []int64{990}},
		{"told awake while awake", fairTimes(10, 700, 500), wakesAt(0, 0), 0, []int64{1010, 700, 500}},
		{"to sleep and awake", fairTimes(10, 700, 500), wakesAt(0, slept0, 0), 0, []int64{1500, 700, 500}},
		{"awake twice", asleepAt(fairTimes(10, 700, 500), 0), wakesAt(0, 0, 0), 0, []int64{1500, 700, 500}},
		{"two, the lesser one first", asleepAt(fairTimes(10, 700, 500), 0, 2), wakesAt(0, 0, 2), 0, []int64{1700, 700, 700}},
		{"two of nobody else, the lesser one first", asleepAt(fairTimes(10, 30), 0, 1), wakesAt(0, 0, 1), 0, []int64{1010, 30}},
		{"two of nobody else, the greater one first", asleepAt(fairTimes(10, 30), 0, 1), wakesAt(0, 1, 0), 0, []int64{1030, 30}},
		{"the least goes to sleep first", asleepAt(fairTimes(10, 700, 500), 0), wakesAt(0, slept2, 0), 0, []int64{1700, 700, 500}},
		{"the least goes to sleep behind it", asleepAt(fairTimes(10, 700, 500), 0), wakesAt(0, 0, slept2), 0, []int64{1500, 700, 500}},
		{"the last one", asleepAt(fairTimes(20, 30, -50), 2), wakesAt(0, 2), 0, []int64{1020, 30, 20}},
		{"below 0", asleepAt(fairTimes(-50, -40, -30), 0), wakesAt(0, 0), 0, []int64{960, -40, -30}},
	} {
		checkSchedWant(t, c.what, schedAsk{way: fairWay, l: c.l, pcpus: 1, wakes: c.wakes, quanta: 1}, schedWant{picks: []int64{c.pick}, credits: c.credits})
	}
	// By the other two nobody's Credit is touched by a wake.
	l := asleepAt(fairTimes(10, 700, 500), 0)
	checkNumbers(t, "RunCredit", creditsOf(checkSched(t, "", schedAsk{way: creditWay, l: l, pcpus: 1, wakes: wakesAt(1, 0), quanta: 2}).Vcpus), []int64{10, 900, 900})
	checkNumbers(t, "RunGang", creditsOf(checkSched(t, "", schedAsk{way: gangWay, l: l, pcpus: 1, wakes: wakesAt(1, 0), quanta: 2}).Vcpus), []int64{10, 700, 500})
}

func TestFairHasNoCaps(t *testing.T) {
	l := awakeVcpus(2, 1000, 1)
	l[0].Cap, l[0].Used, l[1].Cap, l[1].Used = 1, 1, 2, 10
	checkSchedWant(t, "Caps", schedAsk{way: fairWay, l: l, pcpus: 1, quanta: 12}, schedWant{picks: []int64{0, 1, 0, 1, 0, 1, 0, 1, 0, 1, 0, 1}, used: []int64{1, 10}, credits: []int64{6000, 6000}})
}

// gangOf are virtual processors of these guests, all awake.
func gangOf(guests ...int64) []impl.Vcpu {
	l := awakeVcpus(int64(len(guests)), 1, 1)
	for n, guest := range guests {
		l[n].Guest = guest
	}
	return l
}

func TestGangs(t *testing.T) {
	for _, c := range []struct {
		what   string
		l      []impl.Vcpu
		pcpus  int64
		turn   int64
		quanta int64
		picks  []int64
		next   int64
	}{
		{"from turn on", gangOf(1, 2, 3), 1, 2, 1, []int64{1}, 3},
		{"behind turn", gangOf(1, 2, 5), 1, 3, 1, []int64{2}, 6},
		{"then from 0 on", gangOf(1, 2, 3), 1, 4, 1, []int64{0}, 2},
		{"guest 99", gangOf(0, 99), 1, 99, 3, []int64{1, 0, 1}, 0},
		{"guest 99 alone", gangOf(99), 1, 99, 1, []int64{0}, 0},
		{"guest 99 from 0 on", gangOf(99), 1, 0, 2, []int64{0, 0}, 0},
		{"guest 98 from 99 on", gangOf(98), 1, 99, 1, []int64{0}, 99},
		{"round once more", gangOf(98, 99, 0, 1), 2, 98, 3, []int64{0, 1, 1, 2, 2, 3}, 1},
		{"numbers are not in order", gangOf(9, 4, 9, 4), 4, 5, 1, []int64{0, 2, 1, 3}, 10},
		{"not enough are left, but for a later one", gangOf(1, 1, 2, 2, 3), 3, 0, 1, []int64{0, 1, 4}, 2},
		{"the first one has not enough", gangOf(1, 1, 1, 2), 2, 0, 2, []int64{3, -1, 3, -1}, 3},
		{"a greater one from its turn on", gangOf(1, 2, 2, 3, 3), 3, 2, 1, []int64{1, 2, 0}, 3},
		{"nobody has enough", gangOf(1, 1, 2, 2), 1, 7, 2, []int64{-1, -1}, 7},
		{"all at once", gangOf(1, 2, 3), 3, 3, 2, []int64{2, 0, 1, 0, 1, 2}, 2},
		{"just enough", gangOf(4, 4, 4, 4, 4, 4, 4, 4), 8, 0, 1, []int64{0, 1, 2, 3, 4, 5, 6, 7}, 5},
		{"one too many", gangOf(4, 4, 4, 4, 4, 4, 4, 4, 4), 8, 0, 1, []int64{-1, -1, -1, -1, -1, -1, -1, -1}, 0},
		{"turn is of the first that got some", gangOf(5, 7, 7, 9), 2, 6, 2, []int64{1, 2, 3, 0}, 10},
		{"no quantum", gangOf(1), 1, 42, 0, nil, 42},
		{"nobody there", nil, 2, 42, 2, []int64{-1, -1, -1, -1}, 42},
		{"nobody awake", asleepAt(gangOf(1, 2), 0, 1), 1, 42, 2, []int64{-1, -1}, 42},
		{"nobody awake, turn 99", asleepAt(gangOf(1, 2), 0, 1), 1, 99, 1, []int64{-1}, 99},
		{"some awake and some not", asleepAt(gangOf(1, 1, 1, 2), 1), 2, 0, 2, []int64{0, 2, 3, -1}, 3},
		{"those asleep take no room", asleepAt(gangOf(1, 1, 1, 2), 0, 1), 2, 0, 1, []int64{2, 3}, 2},
	} {
		got := checkSchedWant(t, c.what, schedAsk{way: gangWay, l: c.l, pcpus: c.pcpus, quanta: c.quanta, turn: c.turn}, schedWant{picks: c.picks})
		checkNumber(t, c.what+": Turn", got.Turn, c.next)
	}
	ask := schedAsk{way: gangWay, l: gangOf(1, 1, 2), pcpus: 2, wakes: slices.Concat(wakesAt(1, slept1), wakesAt(3, 1)), quanta: 4}
	checkSchedWant(t, "a guest that grows and shrinks", ask, schedWant{picks: []int64{0, 1, 2, 0, 0, 2, 2, -1}, ran: []int64{3, 1, 3}, stolen: []int64{1, 1, 1}})
}

func TestGangsAskNothingElse(t *testing.T) {
	l := gangOf(1, 1, 2)
	l[0].Credit, l[1].Credit, l[2].Credit = -5000, 7, 1<<40
	l[0].Cap, l[0].Used, l[1].Cap, l[1].Used = 1, 1, 3, 10
	l[0].Mask, l[1].Mask, l[2].Mask = 4, 4, 4
	checkSchedWant(t, "a gang", schedAsk{way: gangWay, l: l, pcpus: 3, quanta: 11}, schedWant{picks: slices.Concat(slices.Repeat([]int64{0, 1, 2, 2, 0, 1}, 5), []int64{0, 1, 2}), credits: []int64{-5000, 7, 1 << 40}, used: []int64{1, 10, 0}, ran: []int64{11, 11, 11}})
}

func TestOnlyGangsTellTurn(t *testing.T) {
	for _, way := range []string{creditWay, fairWay} {
		checkNumber(t, way, schedAsk{way: way, l: gangOf(7), pcpus: 1, quanta: 2}.run().Turn, 0)
	}
	checkNumber(t, "RunGang", impl.RunGang(gangOf(7), 1, nil, 2, 0).Turn, 8)
}

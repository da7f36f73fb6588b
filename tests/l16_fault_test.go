package tests

import (
	"fmt"
	"math"
	"math/rand"
	"slices"
	"strings"
	"testing"

	"loop.example/g00038/impl"
)

func faultCode(right bool) int64 {
	if right {
		return impl.OK
	}
	return impl.ErrForm
}

func TestFrameFaultOfAddresses(t *testing.T) {
	for addr, right := range map[int64][2]bool{
		0:                {true, true},
		1:                {true, true},
		281474976710654:  {true, true},
		281474976710655:  {false, true},
		281474976710656:  {false, false},
		281474976710657:  {false, false},
		-1:               {false, false},
		-281474976710655: {false, false},
		math.MaxInt64:    {false, false},
		math.MinInt64:    {false, false},
	} {
		checkNumber(t, fmt.Sprintf("Src %d", addr), impl.FrameFault(impl.Frame{Src: addr, Dst: 1}), faultCode(right[0]))
		checkNumber(t, fmt.Sprintf("Dst %d", addr), impl.FrameFault(impl.Frame{Src: 1, Dst: addr}), faultCode(right[1]))
		checkNumber(t, fmt.Sprintf("both %d", addr), impl.FrameFault(impl.Frame{Src: addr, Dst: addr}), faultCode(right[0] && right[1]))
	}
}

func TestFrameFaultOfNetsAndTexts(t *testing.T) {
	for net, right := range map[int64]bool{0: true, 1: true, 4094: true, 4095: true, 4096: false, -1: false, math.MaxInt64: false, math.MinInt64: false} {
		checkNumber(t, fmt.Sprintf("Net %d", net), impl.FrameFault(impl.Frame{Net: net}), faultCode(right))
	}
	for size, right := range map[int]bool{0: true, 1: true, 1499: true, 1500: true, 1501: false, 65536: false, 65537: false} {
		f := impl.Frame{Src: 1, Dst: 2, Net: 3, Text: strings.Repeat("x", size)}
		checkNumber(t, fmt.Sprintf("a Text of %d", size), impl.FrameFault(f), faultCode(right))
	}
}

type switchCase struct {
	what   string
	right  bool
	change func(w *impl.Switch)
}

// checkSwitchCases holds both calls to what is said of the sample switch when it was changed.
func checkSwitchCases(t *testing.T, cases []switchCase) {
	t.Helper()
	for _, c := range cases {
		w := changedSwitch(sampleSwitch(), c.change)
		before := copySwitch(w)
		checkNumber(t, c.what+": SwitchFault", impl.SwitchFault(w), faultCode(c.right))
		checkSwitch(t, c.what+": what was handed in", w, before)
		got := checkSwRun(t, c.what, w, []impl.SwOp{swTick(w.Time), {}})
		checkNumber(t, c.what+": RunSwitch", got.Code, faultCode(c.right))
	}
}

// eachPort puts something at the first, a middle and the last port, since each is looked at.
func eachPort(what string, right bool, change func(p *impl.SwPort)) []switchCase {
	var cases []switchCase
	for _, at := range []int{0, 3, 7} {
		cases = append(cases, switchCase{fmt.Sprintf("%s at port %d", what, at), right, func(w *impl.Switch) { change(&w.Ports[at]) }})
	}
	return cases
}

// eachEntry does so with the entries of Table.
func eachEntry(what string, right bool, change func(e *impl.SwEntry)) []switchCase {
	var cases []switchCase
	for _, at := range []int{0, 2, 5} {
		cases = append(cases, switchCase{fmt.Sprintf("%s in entry %d", what, at), right, func(w *impl.Switch) { change(&w.Table[at]) }})
	}
	return cases
}

func manyPorts(count int) []impl.SwPort { return slices.Repeat([]impl.SwPort{plainPort(5)}, count) }

func TestSwitchFaultOfHowManyPorts(t *testing.T) {
	var cases []switchCase
	for count, right := range map[int]bool{0: false, 1: true, 2: true, 15: true, 16: true, 17: false, 1000: false} {
		cases = append(cases, switchCase{fmt.Sprintf("%d ports", count), right, func(w *impl.Switch) { w.Ports, w.Table = manyPorts(count), nil }})
	}
	cases = append(cases, switchCase{"as it is", true, func(*impl.Switch) {}})
	checkSwitchCases(t, cases)
	checkNumber(t, "nothing", impl.SwitchFault(impl.Switch{}), impl.ErrForm)
	checkNumber(t, "the least", impl.SwitchFault(impl.Switch{Ports: []impl.SwPort{{Net: 1}}, Age: 1}), impl.OK)
	checkNumber(t, "empty lists", impl.SwitchFault(impl.Switch{Ports: []impl.SwPort{{Net: 1, Nets: []int64{}}}, Table: []impl.SwEntry{}, Age: 1}), impl.OK)
}

func TestSwitchFaultOfNets(t *testing.T) {
	var cases []switchCase
	for net, right := range map[int64]bool{1: true, 4094: true, 4095: true, 4096: false, -1: false, -5: false, math.MaxInt64: false, math.MinInt64: false} {
		cases = append(cases, eachPort(fmt.Sprintf("plain in %d", net), right, func(p *impl.SwPort) { p.Net, p.Nets = net, nil })...)
		cases = append(cases, eachPort(fmt.Sprintf("shared by %d", net), right, func(p *impl.SwPort) { p.Net, p.Nets = 0, []int64{net} })...)
	}
	for what, nets := range map[string][]int64{
		"no Nets": nil, "empty Nets": {}, "Nets of 0": {0}, "Nets with 0": {0, 5}, "two alike": {5, 5}, "two alike further on": {1, 5, 5, 9},
		"falling": {6, 5}, "falling at the end": {1, 2, 3, 2}, "falling at the first": {3, 1, 4}, "MaxNet and one more": {4095, 4096}, "one below 0 ahead": {-1, 1}, "21 of them": inSteps(1, 1, 21), "1001 of them": inSteps(1, 1, 1001),
	} {
		cases = append(cases, eachPort(what, false, func(p *impl.SwPort) { p.Net, p.Nets = 0, nets })...)
	}
	for what, nets := range map[string][]int64{"both ends": {1, 4095}, "neighbours": {5, 6}, "19 of them": inSteps(3, 7, 19), "20 of them": inSteps(1, 1, 20), "the last 20": inSteps(4076, 1, 20)} {
		cases = append(cases, eachPort(what, true, func(p *impl.SwPort) { p.Net, p.Nets = 0, nets })...)
	}
	for what, nets := range map[string][]int64{"plain with its own net in Nets": {5}, "plain with Nets": {6}, "plain with two Nets": {5, 6}} {
		cases = append(cases, eachPort(what, false, func(p *impl.SwPort) { p.Net, p.Nets = 5, nets })...)
	}
	cases = append(cases, eachPort("plain with empty Nets", true, func(p *impl.SwPort) { p.Net, p.Nets = 5, []int64{} })...)
	checkSwitchCases(t, cases)
}

func TestSwitchFaultOfOwnersAndLevels(t *testing.T) {
	var cases []switchCase
	for owner, right := range map[int64]bool{0: true, 1: true, everybody - 1: true, everybody: false, everybody + 1: false, -1: false, math.MaxInt64: false, math.MinInt64: false} {
		cases = append(cases, eachPort(fmt.Sprintf("Owner %d", owner), right, func(p *impl.SwPort) { p.Owner = owner })...)
	}
	for n, right := range map[int64]bool{0: true, 1: true, 999999: true, 1000000: true, 1000001: false, -1: false, math.MaxInt64: false, math.MinInt64: false} {
		cases = append(cases, eachPort(fmt.Sprintf("Rate %d", n), right, func(p *impl.SwPort) { p.Rate = n })...)
		cases = append(cases, eachPort(fmt.Sprintf("Burst and Level %d", n), right, func(p *impl.SwPort) { p.Burst, p.Level = n, n })...)
		cases = append(cases, eachPort(fmt.Sprintf("Burst %d, Level 0", n), right, func(p *impl.SwPort) { p.Burst, p.Level = n, 0 })...)
	}
	for level, right := range map[int64]bool{0: true, 1: true, 29: true, 30: true, 31: false, -1: false, 1000000: false, math.MaxInt64: false, math.MinInt64: false} {
		cases = append(cases, eachPort(fmt.Sprintf("Level %d of 30", level), right, func(p *impl.SwPort) { p.Burst, p.Level = 30, level })...)
	}
	for _, up := range []bool{true, false} {
		cases = append(cases, eachPort("up or down", true, func(p *impl.SwPort) { p.Up = up })...)
	}
	checkSwitchCases(t, cases)
}

// manyEntries are of one net each with its own address, or of one address each with its own net.
func manyEntries(count int64, oneNet bool) []impl.SwEntry {
	var table []impl.SwEntry
	for n := range count {
		e := impl.SwEntry{Net: 5, Addr: n, Port: n % 8, Seen: n}
		if !oneNet {
			e.Net, e.Addr = n+1, 5
		}
		table = append(table, e)
	}
	return table
}

func TestSwitchFaultOfTables(t *testing.T) {
	var cases []switchCase
	for count, right := range map[int64]bool{0: true, 1: true, 15: true, 16: true, 17: false, 90: false} {
		for _, oneNet := range []bool{true, false} {
			cases = append(cases, switchCase{fmt.Sprintf("%d entries", count), right, func(w *impl.Switch) { w.Table = manyEntries(count, oneNet) }})
		}
	}
	for _, pair := range [][2]int{{0, 1}, {0, 5}, {4, 5}, {2, 3}} {
		same := func(w *impl.Switch) {
			w.Table[pair[1]].Net, w.Table[pair[1]].Addr = w.Table[pair[0]].Net, w.Table[pair[0]].Addr
		}
		cases = append(cases, switchCase{fmt.Sprintf("entries %v of one Net and Addr", pair), false, same})
	}
	cases = append(cases,
		switchCase{"one Net, two Addrs", true, func(w *impl.Switch) { w.Table = []impl.SwEntry{{Net: 5, Addr: 6}, {Net: 5, Addr: 7}} }},
		switchCase{"one Addr, two Nets", true, func(w *impl.Switch) { w.Table = []impl.SwEntry{{Net: 5, Addr: 6}, {Net: 6, Addr: 6}} }},
		switchCase{"Net and Addr turned", true, func(w *impl.Switch) { w.Table = []impl.SwEntry{{Net: 5, Addr: 6}, {Net: 6, Addr: 5}} }},
		switchCase{"a port that is down and not in the net", true, func(w *impl.Switch) { w.Table = []impl.SwEntry{{Net: 6, Addr: 1, Port: 4}} }},
		switchCase{"a net that no port is in", true, func(w *impl.Switch) { w.Table = []impl.SwEntry{{Net: 4095, Addr: 1, Port: 0}} }},
		switchCase{"seen longer ago than Age", true, func(w *impl.Switch) { w.Table[0].Seen, w.Age = 0, 1 }},
	)
	checkSwitchCases(t, cases)
}

func TestSwitchFaultOfEntries(t *testing.T) {
	var cases []switchCase
	for net, right := range map[int64]bool{0: false, 1: true, 4095: true, 4096: false, -1: false, math.MaxInt64: false, math.MinInt64: false} {
		cases = append(cases, eachEntry(fmt.Sprintf("Net %d", net), right, func(e *impl.SwEntry) { e.Net = net })...)
	}
	for addr, right := range map[int64]bool{0: true, 3: true, everybody - 1: true, everybody: false, everybody + 1: false, -1: false, math.MaxInt64: false, math.MinInt64: false} {
		cases = append(cases, eachEntry(fmt.Sprintf("Addr %d", addr), right, func(e *impl.SwEntry) { e.Addr = addr })...)
	}
	for port, right := range map[int64]bool{0: true, 4: true, 7: true, 8: false, 16: false, -1: false, math.MaxInt64: false, math.MinInt64: false} {
		cases = append(cases, eachEntry(fmt.Sprintf("Port %d", port), right, func(e *impl.SwEntry) { e.Port = port })...)
	}
	for seen, right := range map[int64]bool{0: true, 1: true, 99: true, 100: true, 101: false, -1: false, math.MaxInt64: false, math.MinInt64: false} {
		cases = append(cases, eachEntry(fmt.Sprintf("Seen %d", seen), right, func(e *impl.SwEntry) { e.Seen = seen })...)
	}
	checkSwitchCases(t, cases)
}

func TestSwitchFaultOfTimes(t *testing.T) {
	var cases []switchCase
	for time, right := range map[int64]bool{0: true, 1: true, 1<<40 - 1: true, 1 << 40: true, 1<<40 + 1: false, -1: false, math.MaxInt64: false, math.MinInt64: false} {
		cases = append(cases, switchCase{fmt.Sprintf("Time %d", time), right, func(w *impl.Switch) { w.Time, w.Table = time, nil }})
	}
	for age, right := range map[int64]bool{0: false, 1: true, 2: true, 999999: true, 1000000: true, 1000001: false, -1: false, math.MaxInt64: false, math.MinInt64: false} {
		cases = append(cases, switchCase{fmt.Sprintf("Age %d", age), right, func(w *impl.Switch) { w.Age = age }})
	}
	cases = append(cases, switchCase{"a Time behind which entries were seen", false, func(w *impl.Switch) { w.Time = 99 }})
	checkSwitchCases(t, cases)
}

func TestSwitchFaultOfRandomSwitches(t *testing.T) {
	rng := rand.New(rand.NewSource(1601))
	for n := range 2000 {
		w := swRandom(rng)
		checkNumber(t, fmt.Sprintf("switch %d", n), impl.SwitchFault(w), impl.OK)
		at := rng.Intn(len(w.Ports))
		p := &w.Ports[at]
		*oneField(rng, &w, p) = oneOf(rng, math.MinInt64, -1, 0, 1, 2, 4095, 4096, 1000000, 1000001, everybody-1, everybody, 1<<40, 1<<40+1, math.MaxInt64)
		checkNumber(t, fmt.Sprintf("switch %d: %+v", n, w), impl.SwitchFault(w), faultCode(plainSwitchRight(w)))
	}
}

func oneField(rng *rand.Rand, w *impl.Switch, p *impl.SwPort) *int64 {
	fields := []*int64{&w.Time, &w.Age, &p.Net, &p.Owner, &p.Rate, &p.Burst, &p.Level}
	for at := range p.Nets {
		fields = append(fields, &p.Nets[at])
	}
	for at := range w.Table {
		e := &w.Table[at]
		fields = append(fields, &e.Net, &e.Addr, &e.Port, &e.Seen)
	}
	return fields[rng.Intn(len(fields))]
}

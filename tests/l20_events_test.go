package tests

import (
	"fmt"
	"math"
	"math/rand"
	"slices"
	"strings"
	"testing"

	"loop.example/g00038/impl"
)

func manyEvents(count int, e impl.Event) []impl.Event { return slices.Repeat([]impl.Event{e}, count) }

// checkEventsFault holds events to whether they are right, in all calls that take them.
func checkEventsFault(t *testing.T, what string, list []impl.Event, right bool) {
	t.Helper()
	before := slices.Clone(list)
	checkNumber(t, what, impl.EventsFault(list), faultCode(right))
	text := impl.PackEvents(list)
	code := faultCode(right)
	if len(list) > 1000 {
		code = impl.ErrSize
	}
	m := impl.NewMachine(emptyMemory(1))
	checkNumber(t, what+": RunEvents", impl.RunEvents(m, list, 1).Code, code)
	checkNumber(t, what+": RunPair", impl.RunPair(m, list, 1, 1, 0).Code, code)
	if right {
		checkText(t, what+": its text", text, plainEventsText(list))
		checkEvents(t, what+": back", impl.UnpackEvents(text), list)
	} else {
		checkText(t, what+": its text", text, "")
		checkEventRun(t, what+": RunEvents", impl.RunEvents(m, list, 1), impl.EventRun{Code: code})
	}
	checkEvents(t, what+": what was handed in", list, before)
}

func TestEventsFaultOfHowMany(t *testing.T) {
	for _, e := range []impl.Event{lineEvent(5, 3), inEvent(7, 2, 1)} {
		for count, right := range map[int]bool{0: true, 1: true, 2: true, 199: true, 200: true, 201: false, 999: false, 1000: false, 1001: false, 5000: false} {
			checkEventsFault(t, fmt.Sprintf("%d events", count), manyEvents(count, e), right)
		}
	}
}

func TestEventsFaultOfBounds(t *testing.T) {
	for what, c := range map[string]struct {
		bounds map[int64]bool
		event  func(n int64) impl.Event
	}{
		"At of a line":   {map[int64]bool{-1: false, 0: true, 1: true, 1<<32 - 1: true, 1 << 32: true, endCount - 1: true, endCount: true, endCount + 1: false}, func(n int64) impl.Event { return lineEvent(n, 1) }},
		"At of an input": {map[int64]bool{-1: false, 0: true, 1: true, 1<<32 - 1: true, 1 << 32: true, endCount - 1: true, endCount: true, endCount + 1: false}, func(n int64) impl.Event { return inEvent(n, 1, 1) }},
		"a line":         {map[int64]bool{-1: false, 0: true, 1: true, 5: true, 6: true, 7: false, 8: false, 2047: false, 65536: false}, func(n int64) impl.Event { return lineEvent(3, n) }},
		"a port":         {map[int64]bool{-1: false, 0: true, 6: true, 7: true, 2046: true, 2047: true, 2048: false, 65535: false, 65536: false}, func(n int64) impl.Event { return inEvent(3, n, 9) }},
		"a line's Value": {map[int64]bool{-1: false, 0: true, 1: false, allOn: false, 1 << 32: false}, func(n int64) impl.Event { return impl.Event{At: 3, Kind: impl.EvLine, Num: 2, Value: n} }},
		"a Value":        {map[int64]bool{-1: false, 0: true, 1: true, topBit: true, allOn - 1: true, allOn: true, allOn + 1: false}, func(n int64) impl.Event { return inEvent(3, 2, n) }},
		"a Kind":         {map[int64]bool{-1: false, 0: false, 1: true, 2: true, 3: false, 4: false, 65537: false}, func(n int64) impl.Event { return impl.Event{At: 3, Kind: n, Num: 2} }},
	} {
		for n, right := range withEnds(c.bounds) {
			e := c.event(n)
			checkEventsFault(t, fmt.Sprintf("%s %d", what, n), []impl.Event{e}, right)
			if among(e.At, 0, endCount) {
				checkEventsFault(t, fmt.Sprintf("%s %d, the first", what, n), []impl.Event{e, lineEvent(endCount, 0)}, right)
				checkEventsFault(t, fmt.Sprintf("%s %d, the last", what, n), []impl.Event{lineEvent(0, 0), inEvent(0, 0, 0), e}, right)
			}
		}
	}
}

func TestEventsFaultOfOrder(t *testing.T) {
	at := func(places ...int64) (list []impl.Event) {
		for n, place := range places {
			list = append(list, []impl.Event{lineEvent(place, int64(6-n)), inEvent(place, int64(90-n), int64(9-n))}[n%2])
		}
		return list
	}
	for _, right := range [][]int64{{}, {5}, {5, 5}, {5, 6}, {0, 0, 0, endCount}, {0, 1, 2, 3, 4}, {3, 3, 4, 4, 5}, {endCount, endCount}} {
		checkEventsFault(t, fmt.Sprint(right), at(right...), true)
	}
	for _, wrong := range [][]int64{{5, 4}, {1, 0}, {0, 1, 0}, {5, 6, 5, 7}, {3, 3, 2}, {endCount, endCount - 1}, {1 << 32, 1<<32 - 1}, {2, 1, 3}, {1, 2, 3, 4, 3}} {
		checkEventsFault(t, fmt.Sprint(wrong), at(wrong...), false)
	}
}

func TestPackEvents(t *testing.T) {
	checkText(t, "none", impl.PackEvents(nil), "VE1\n")
	checkText(t, "a line", impl.PackEvents([]impl.Event{lineEvent(0x123456789a, 6)}), "VE1\n\x9a\x78\x56\x34\x12\x00\x00\x00\x06\x00\x01\x00\x00\x00\x00\x00")
	checkText(t, "an input", impl.PackEvents([]impl.Event{inEvent(endCount, 2047, 0xfedcba98)}), "VE1\n\x00\x00\x00\x00\x00\x01\x00\x00\xff\x07\x02\x00\x98\xba\xdc\xfe")
	two := []impl.Event{inEvent(1, 0, 0), lineEvent(1, 0)}
	checkText(t, "two", impl.PackEvents(two), "VE1\n\x01\x00\x00\x00\x00\x00\x00\x00\x00\x00\x02\x00\x00\x00\x00\x00\x01\x00\x00\x00\x00\x00\x00\x00\x00\x00\x01\x00\x00\x00\x00\x00")
	checkNumber(t, "the most", int64(len(impl.PackEvents(manyEvents(200, two[0])))), 4+200*16)
}

// checkNoEvents holds a text to be that of no events.
func checkNoEvents(t *testing.T, what string, text string) {
	t.Helper()
	checkEvents(t, what, impl.UnpackEvents(text), nil)
}

func TestUnpackEventsOfOtherTexts(t *testing.T) {
	list := []impl.Event{lineEvent(3, 1), inEvent(4, 5, 6), inEvent(1<<33+1, 2047, allOn)}
	text := impl.PackEvents(list)
	checkEvents(t, "as it is", impl.UnpackEvents(text), list)
	checkNoEvents(t, "of none", "VE1\n")
	for cut := range len(text) {
		var want []impl.Event
		if cut >= 4 && (cut-4)%16 == 0 {
			want = list[:(cut-4)/16]
		}
		checkEvents(t, fmt.Sprintf("%d bytes", cut), impl.UnpackEvents(text[:cut]), want)
	}
	for more := 1; more < 16; more++ {
		checkNoEvents(t, fmt.Sprintf("%d bytes more", more), text+bytes0(more))
	}
	checkNoEvents(t, "an event of zeros more", text+bytes0(16))
	for _, begin := range []string{"VE2\n", "VM1\n", "VD1\n", "ve1\n", "VE1\r", "\x00\x00\x00\x00", ""} {
		checkNoEvents(t, fmt.Sprintf("%q", begin), begin+text[4:])
	}
	for _, other := range []string{"", "V", "VE1", "\n", "VE1\nVE1\n", "x" + text, text[1:], text + text} {
		checkNoEvents(t, fmt.Sprintf("%.20q", other), other)
	}
}

// Texts of the right length whose events are wrong.
func TestUnpackEventsOfWrongEvents(t *testing.T) {
	one := func(words ...int64) string { return "VE1\n" + fourBytesEach(words) }
	for what, text := range map[string]string{
		"Kind 0": one(0, 0, 5, 0), "Kind 3": one(0, 0, 3<<16, 0), "Kind 65535": one(0, 0, allOn, 0),
		"line 7": one(0, 0, 1<<16+7, 0), "line 65535": one(0, 0, 1<<16+65535, 0), "a line's Value": one(0, 0, 1<<16, 1),
		"port 2048": one(0, 0, 2<<16+2048, 0), "port 65535": one(0, 0, 2<<16+65535, 0),
		"At above": one(1, 256, 1<<16, 0), "At far above": one(0, 257, 1<<16, 0), "At 2^63": one(0, topBit, 1<<16, 0), "At -1": one(allOn, allOn, 1<<16, 0),
		"falling": one(1, 0, 1<<16, 0, 0, 0, 1<<16, 0), "falling by its second word": one(0, 1, 1<<16, 0, 5, 0, 1<<16, 0),
		"the last one wrong": one(0, 0, 1<<16, 0, 0, 0, 2<<16, 9, 0, 0, 1<<16, 9),
	} {
		checkNoEvents(t, what, text)
	}
	for what, c := range map[string]struct {
		text string
		want impl.Event
	}{
		"At 2^40": {one(0, 256, 1<<16+6, 0), lineEvent(endCount, 6)}, "port 2047": {one(allOn, 255, 2<<16+2047, allOn), inEvent(endCount-1, 2047, allOn)},
	} {
		checkEvents(t, what, impl.UnpackEvents(c.text), []impl.Event{c.want})
	}
	for count, right := range map[int]bool{199: true, 200: true, 201: false, 300: false, 4095: false, 4096: false, 10000: false} {
		list := manyEvents(count, inEvent(7, 8, 9))
		want := list
		if !right {
			want = nil
		}
		checkEvents(t, fmt.Sprintf("%d events", count), impl.UnpackEvents(plainEventsText(list[:min(count, 200)])+strings.Repeat(plainEventsText(list[:1])[4:], max(count-200, 0))), want)
	}
	checkNoEvents(t, "a long text", strings.Repeat("V", 65536))
	checkNoEvents(t, "a longer one", "VE1\n"+bytes0(1<<20))
}

func TestP40EventsComeBack(t *testing.T) {
	rng := rand.New(rand.NewSource(2040))
	for n := range 2000 {
		list := randomEvents(rng, oneOf(rng, 0, 1<<32-5, endCount-20, rng.Int63n(endCount)), oneOf(rng, 1, 10, 1000), int(oneOf(rng, 3, 40, 200)))
		text := impl.PackEvents(list)
		checkText(t, fmt.Sprintf("list %d", n), text, plainEventsText(list))
		got := impl.UnpackEvents(text)
		checkEvents(t, fmt.Sprintf("list %d", n), got, list)
		for at := range got {
			got[at] = impl.Event{}
		}
		checkEvents(t, fmt.Sprintf("list %d again", n), impl.UnpackEvents(text), list)
		if len(text) > 4 {
			other := otherText(text, rng.Intn(len(text)), byte(1+rng.Intn(255)))
			back := impl.UnpackEvents(other)
			checkNumber(t, "what is read is right", impl.EventsFault(back), impl.OK)
			if len(back) > 0 {
				checkText(t, "packed again", impl.PackEvents(back), other)
			}
		}
	}
}

// echoMachine tells what it reads at port 5, over and over: steps 1, 4 and so on read, steps 2, 5 and so on tell.
func echoMachine(t *testing.T) impl.Machine {
	t.Helper()
	return loadMachine(t, 2, "in r1, 5\nout r1, 2\neq r0, r0, -2")
}

func toldOf(port int64, pairs ...int64) (list []impl.Told) {
	for n := 0; n < len(pairs); n += 2 {
		list = append(list, impl.Told{At: pairs[n], Port: port, Value: pairs[n+1]})
	}
	return list
}

func TestRunEventsTellsWithTheCountBehindTheStep(t *testing.T) {
	m := echoMachine(t)
	m.Ins = []impl.PortValue{{Port: 5, Value: 50}, {Port: 6, Value: 60}, {Port: 5, Value: 51}}
	got := checkRunEvents(t, "no events", m, nil, 9)
	checkToldList(t, "no events", got.Told, toldOf(2, 2, 50, 5, 51, 8, allOn))
	m.Count = 1<<32 - 1
	got = checkRunEvents(t, "no events", m, nil, 9)
	checkToldList(t, "a greater Count", got.Told, toldOf(2, 1<<32+1, 50, 1<<32+4, 51, 1<<32+7, allOn))
	for steps := range int64(9) {
		checkNumber(t, fmt.Sprintf("%d steps", steps), int64(len(checkRunEvents(t, "some steps", m, nil, steps).Told)), (steps+1)/3)
	}
}

func TestRunEventsOfSeveralAtOneCount(t *testing.T) {
	m := echoMachine(t)
	m.Ins = []impl.PortValue{{Port: 5, Value: 50}}
	events := []impl.Event{inEvent(0, 5, 10), inEvent(0, 6, 11), inEvent(0, 5, 12), lineEvent(0, 2), lineEvent(0, 0), lineEvent(0, 2)}
	got := checkRunEvents(t, "at 0", m, events, 11)
	checkToldList(t, "at 0", got.Told, toldOf(2, 2, 50, 5, 10, 8, 12, 11, allOn))
	checkNumber(t, "at 0: Lines", got.Machine.Lines, 5)
	checkPorts(t, "at 0: Ins", got.Machine.Ins, []impl.PortValue{{Port: 6, Value: 11}})
	events = []impl.Event{inEvent(3, 5, 1), inEvent(3, 5, 2), inEvent(4, 5, 3), inEvent(4, 5, 4)}
	got = checkRunEvents(t, "at 3 and 4", m, events, 20)
	checkToldList(t, "at 3 and 4", got.Told, toldOf(2, 2, 50, 5, 1, 8, 2, 11, 3, 14, 4, 17, allOn, 20, allOn))
}

// An event comes ahead of the step behind which Count is one more than its At.
func TestRunEventsOfPlaces(t *testing.T) {
	for _, first := range []int64{0, 1, 10, 1<<32 - 2, endCount - 6} {
		m := echoMachine(t)
		m.Count = first
		for place := int64(-2); place <= 8; place++ {
			at := first + place
			if at < 0 || at > endCount {
				continue
			}
			what := fmt.Sprintf("Count %d, At %d", first, at)
			got := checkRunEvents(t, what, m, []impl.Event{inEvent(at, 5, 77), lineEvent(at, 3)}, 6)
			want := []int64{allOn, allOn}
			switch {
			case place == 0:
				want[0] = 77
			case among(place, 1, 3):
				want[1] = 77
			}
			checkToldList(t, what, got.Told, toldOf(2, first+2, want[0], first+5, want[1]))
			comes := among(place, 0, 5)
			checkNumber(t, what+": Lines", got.Machine.Lines, map[bool]int64{true: 8}[comes])
			left := 0
			if among(place, 4, 5) {
				left = 1
			}
			checkNumber(t, what+": Ins", int64(len(got.Machine.Ins)), int64(left))
		}
	}
}

// What has passed is left out, whatever comes behind it.
func TestRunEventsThatHavePassed(t *testing.T) {
	m := echoMachine(t)
	m.Count = 100
	events := []impl.Event{lineEvent(0, 1), inEvent(50, 5, 1), inEvent(99, 5, 2), inEvent(100, 5, 3), inEvent(101, 5, 4), lineEvent(103, 4), inEvent(106, 5, 5), lineEvent(106, 6)}
	got := checkRunEvents(t, "some passed", m, events, 6)
	checkToldList(t, "some passed", got.Told, toldOf(2, 102, 3, 105, 4))
	checkNumber(t, "some passed: Lines", got.Machine.Lines, 16)
	got = checkRunEvents(t, "the rest", got.Machine, events, 6)
	checkToldList(t, "the rest", got.Told, toldOf(2, 108, 5, 111, allOn))
	checkNumber(t, "the rest: Lines", got.Machine.Lines, 16+64)
	checkNumber(t, "all passed", checkRunEvents(t, "all passed", got.Machine, events, 6).Machine.Lines, 80)
}

func TestRunEventsOfFullIns(t *testing.T) {
	for _, room := range []int{0, 1, 2, 3} {
		m := loadMachine(t, 1, "addi r2, r2, 1\nin r1, 9\naddi r2, r2, 1\neq r0, r0, -1")
		m.Ins = slices.Repeat([]impl.PortValue{{Port: 9, Value: 90}}, 100-room)
		want := slices.Clone(m.Ins)
		for n := range min(room, 2) {
			want = append(want, impl.PortValue{Port: 5, Value: int64(n)})
		}
		got := checkRunEvents(t, "full", m, []impl.Event{inEvent(0, 5, 0), inEvent(0, 5, 1)}, 1)
		checkPorts(t, fmt.Sprintf("room for %d", room), got.Machine.Ins, want)
		if room < 2 {
			// Step 2 reads one, so that step 3 has room for one more; what had no place is gone.
			got = checkRunEvents(t, "read", m, []impl.Event{inEvent(0, 5, 0), inEvent(0, 5, 1), lineEvent(1, 3), inEvent(2, 6, 2), inEvent(2, 6, 3), lineEvent(2, 4)}, 3)
			checkPorts(t, fmt.Sprintf("room for %d and one more", room), got.Machine.Ins, append(want[1:], impl.PortValue{Port: 6, Value: 2}))
			checkNumber(t, "lines come all the same", got.Machine.Lines, 24)
		}
	}
}

func TestRunEventsTellsOutsThatHaveNoPlace(t *testing.T) {
	for _, outs := range []int{0, 97, 98, 99, 100} {
		m := echoMachine(t)
		m.Outs = make([]impl.PortValue, outs)
		m.Ins = []impl.PortValue{{Port: 5, Value: 1}, {Port: 5, Value: 2}, {Port: 5, Value: 3}}
		got := checkRunEvents(t, fmt.Sprintf("%d Outs", outs), m, nil, 9)
		checkToldList(t, fmt.Sprintf("%d Outs", outs), got.Told, toldOf(2, 2, 1, 5, 2, 8, 3))
		checkNumber(t, "Outs", int64(len(got.Machine.Outs)), int64(min(outs+3, 100)))
	}
	m := loadMachine(t, 1, "out r1, 7\naddi r1, r1, 1\neq r0, r0, -2")
	got := impl.RunEvents(m, nil, 20000)
	checkNumber(t, "of a long run", int64(len(got.Told)), 6667)
	for n, told := range got.Told {
		if told != (impl.Told{At: int64(3*n + 1), Port: 7, Value: int64(n)}) {
			t.Fatalf("number %d is %+v", n, told)
		}
	}
}

// An out that traps, or in whose place a line comes, tells nothing.
func TestRunEventsTellsWhatWasDoneAlone(t *testing.T) {
	told := func(what string, m impl.Machine, events []impl.Event, want ...impl.Told) {
		t.Helper()
		checkToldList(t, what, checkRunEvents(t, what, m, events, 2).Told, want)
	}
	m := loadMachine(t, 2, "out r1, 2047\nout r0, 0")
	m.Regs[1], m.Ctl[impl.CtlVector] = allOn, 256
	told("both", m, nil, impl.Told{At: 1, Port: 2047, Value: allOn}, impl.Told{At: 2})
	user := copyMachine(m)
	user.Mode = impl.ModeUser
	told("of a user", user, nil)
	below := copyMachine(m)
	below.Mem = withWord(below.Mem, 0, wordOfInstr(impl.Instr{Op: impl.OpOut, A: 1, Imm: -1}))
	told("of a port that is none", below, nil)
	m.Ctl[impl.CtlEnable], m.Ctl[impl.CtlStatus] = 4, impl.StatusOn
	told("a line first", m, []impl.Event{lineEvent(0, 2)})
	told("a line second", m, []impl.Event{lineEvent(1, 2)}, impl.Told{At: 1, Port: 2047, Value: allOn})
	told("a line that is not let", m, []impl.Event{lineEvent(0, 3), lineEvent(1, 1)}, impl.Told{At: 1, Port: 2047, Value: allOn}, impl.Told{At: 2})
	told("a line behind both", m, []impl.Event{lineEvent(2, 2)}, impl.Told{At: 1, Port: 2047, Value: allOn}, impl.Told{At: 2})
}

func TestRunEventsOfAMachineThatWaits(t *testing.T) {
	m := loadMachine(t, 2, "wait\nout r1, 3\nhalt")
	m.Regs[1], m.Ctl[impl.CtlEnable], m.Ctl[impl.CtlVector] = 9, 1<<5, 256
	got := checkRunEvents(t, "nothing wakes it", m, []impl.Event{inEvent(2, 3, 4), lineEvent(3, 4)}, 50)
	checkNumbers(t, "nothing wakes it: State, Steps, Count", []int64{got.Machine.State, got.Steps, got.Machine.Count}, []int64{impl.StateWait, 50, 50})
	for _, at := range []int64{0, 1, 2, 7, 30} {
		got = checkRunEvents(t, "a line wakes it", m, []impl.Event{lineEvent(at, 5)}, 50)
		wakes := max(at, 1)
		checkToldList(t, fmt.Sprintf("woken at %d", at), got.Told, []impl.Told{{At: wakes + 1, Port: 3, Value: 9}})
		checkNumbers(t, "State, Steps, Lines", []int64{got.Machine.State, got.Steps, got.Machine.Lines}, []int64{impl.StateHalt, wakes + 2, 32})
	}
	m.Ctl[impl.CtlStatus] = impl.StatusOn
	got = checkRunEvents(t, "a line traps", m, []impl.Event{lineEvent(7, 5)}, 8)
	checkNumbers(t, "a line traps: State, Pc, From, Cause, Lines", []int64{got.Machine.State, got.Machine.Pc, got.Machine.Ctl[impl.CtlFrom], got.Machine.Ctl[impl.CtlCause], got.Machine.Lines}, []int64{impl.StateGo, 256, 4, impl.CauseLine + 5, 0})
	m.State = impl.StateWait
	got = checkRunEvents(t, "it waited ahead", m, []impl.Event{lineEvent(0, 5)}, 1)
	checkNumbers(t, "it waited ahead: State, Pc", []int64{got.Machine.State, got.Machine.Pc}, []int64{impl.StateGo, 256})
}

func TestRunEventsOfAMachineThatIsHalted(t *testing.T) {
	m := echoMachine(t)
	m.State = impl.StateHalt
	events := []impl.Event{lineEvent(0, 1), inEvent(0, 5, 5), lineEvent(1, 2)}
	for _, count := range []int64{0, 1, endCount} {
		m.Count = count
		for _, steps := range []int64{0, 1, 20000} {
			got := checkRunEvents(t, "halted", m, events, steps)
			checkEventRun(t, fmt.Sprintf("halted, Count %d, %d steps", count, steps), got, impl.EventRun{Machine: m})
		}
	}
	m = loadMachine(t, 1, "addi r1, r1, 1\nhalt")
	got := checkRunEvents(t, "halts", m, []impl.Event{lineEvent(1, 1), lineEvent(2, 2), inEvent(2, 1, 1)}, 100)
	checkNumbers(t, "halts: Steps, Lines, Ins", []int64{got.Steps, got.Machine.Lines, int64(len(got.Machine.Ins))}, []int64{2, 2, 0})
}

func TestRunEventsHoldsStepsToTheirBounds(t *testing.T) {
	for steps, right := range withEnds(map[int64]bool{-1: false, 0: true, 1: true, 19999: true, 20000: true, 20001: false}) {
		for _, state := range []int64{impl.StateGo, impl.StateWait, impl.StateHalt} {
			m := rowMachine(t, 3)
			m.State = state
			got := impl.RunEvents(m, []impl.Event{inEvent(0, 1, 1)}, steps)
			what := fmt.Sprintf("%d steps, state %d", steps, state)
			if !right {
				checkEventRun(t, what, got, impl.EventRun{Code: impl.ErrForm})
				checkPairRun(t, what, impl.RunPair(m, nil, steps, 1, 0), impl.PairRun{Code: impl.ErrForm})
				continue
			}
			checkNumber(t, what, got.Code, impl.OK)
			plain := impl.RunEvents(m, nil, steps)
			checkRun(t, what+": without events", impl.MachineRun{Machine: plain.Machine, Steps: plain.Steps}, impl.RunMachine(m, steps))
		}
	}
}

// As RunMachine has it, a step has the code, and not the number of steps.
func TestRunEventsAtTheEndOfCount(t *testing.T) {
	for _, steps := range []int64{0, 1, 2, 10, 20000} {
		for _, state := range []int64{impl.StateGo, impl.StateWait} {
			m := rowMachine(t, 2)
			m.State = state
			events := []impl.Event{lineEvent(endCount, 1), inEvent(endCount, 1, 1)}
			m.Count = endCount - steps
			got := impl.RunEvents(m, events, steps)
			what := fmt.Sprintf("%d steps, state %d", steps, state)
			checkNumbers(t, what+": Code, Steps, Count, Lines", []int64{got.Code, got.Steps, got.Machine.Count, got.Machine.Lines}, []int64{impl.OK, steps, endCount, 0})
			if steps > 0 {
				m.Count++
				checkEventRun(t, what+", one above", impl.RunEvents(m, events, steps), impl.EventRun{Code: impl.ErrLimit})
				checkPairRun(t, what+", one above", impl.RunPair(m, events, steps, 1, 0), impl.PairRun{Code: impl.ErrLimit})
				m.Count = endCount
				checkEventRun(t, what+", at the end", impl.RunEvents(m, events, steps), impl.EventRun{Code: impl.ErrLimit})
			}
		}
	}
	m := loadMachine(t, 1, "out r0, 1\nhalt")
	for count, code := range map[int64]int64{endCount - 3: impl.OK, endCount - 2: impl.OK, endCount - 1: impl.ErrLimit, endCount: impl.ErrLimit} {
		m.Count = count
		checkNumber(t, fmt.Sprintf("it halts, Count %d", count), checkRunEvents(t, "it halts", m, nil, 20).Code, code)
	}
	m.Ctl[impl.CtlEnable], m.Ctl[impl.CtlStatus], m.Ctl[impl.CtlVector] = 1, impl.StatusOn, 0
	m.Count = endCount - 3
	checkNumber(t, "it halts in time", checkRunEvents(t, "in time", m, nil, 20).Code, impl.OK)
	checkNumber(t, "an event keeps it from that", checkRunEvents(t, "kept", m, []impl.Event{lineEvent(endCount-2, 0)}, 20).Code, impl.ErrLimit)
}

func TestRunEventsOfWrongMachines(t *testing.T) {
	checkEventRun(t, "the zero machine", impl.RunEvents(impl.Machine{}, nil, 0), impl.EventRun{Code: impl.ErrForm})
	for _, c := range wrongChanges() {
		m := sampleMachine(0)
		c.change(&m)
		for _, steps := range []int64{0, 3} {
			checkEventRun(t, c.what, impl.RunEvents(m, nil, steps), impl.EventRun{Code: impl.ErrForm})
			checkPairRun(t, c.what, impl.RunPair(m, nil, steps, 1, 0), impl.PairRun{Code: impl.ErrForm})
		}
	}
	for _, c := range rightChanges() {
		m := sampleMachine(wordOfText(t, "out r1, 1"))
		c.change(&m)
		checkRunEvents(t, c.what, m, []impl.Event{lineEvent(5000, 1)}, min(3, endCount-m.Count))
	}
}

func TestRunEventsTellsTheFirstFault(t *testing.T) {
	m := rowMachine(t, 2)
	m.Count = endCount
	wrong := copyMachine(m)
	wrong.Mode = 2
	right, bad, long := []impl.Event{lineEvent(1, 1)}, []impl.Event{lineEvent(1, 7)}, manyEvents(1001, lineEvent(1, 1))
	for _, c := range []struct {
		what   string
		m      impl.Machine
		events []impl.Event
		steps  int64
		code   int64
	}{
		{"a long list, and all else", wrong, long, -1, impl.ErrSize},
		{"a long list, no room in Count", m, long, 1, impl.ErrSize},
		{"a list of MaxList, no room in Count", m, long[:1000], 1, impl.ErrForm},
		{"a wrong machine", wrong, right, 1, impl.ErrForm},
		{"wrong steps", m, right, -1, impl.ErrForm},
		{"too many steps", m, right, 20001, impl.ErrForm},
		{"wrong events, no room in Count", m, bad, 1, impl.ErrForm},
		{"no room in Count", m, right, 1, impl.ErrLimit},
		{"nothing", m, right, 0, impl.OK},
	} {
		checkNumber(t, c.what, checkRunEvents(t, c.what, c.m, c.events, c.steps).Code, c.code)
		checkNumber(t, c.what+": RunPair", impl.RunPair(c.m, c.events, c.steps, 5, 2).Code, c.code)
	}
}

// checkEventParts is P40's last part.
func checkEventParts(t *testing.T, what string, m impl.Machine, events []impl.Event, first int64, second int64) {
	t.Helper()
	whole := impl.RunEvents(m, events, first+second)
	if whole.Code != impl.OK {
		return
	}
	one := impl.RunEvents(m, events, first)
	two := impl.RunEvents(one.Machine, events, second)
	both := impl.EventRun{Machine: two.Machine, Steps: one.Steps + two.Steps, Told: append(one.Told, two.Told...)}
	checkEventRun(t, fmt.Sprintf("%s in parts of %d and %d", what, first, second), both, whole)
	checkEventRun(t, what+" once more", impl.RunEvents(m, impl.UnpackEvents(impl.PackEvents(events)), first+second), whole)
	checkNumber(t, what+": MachineFault", impl.MachineFault(whole.Machine), impl.OK)
}

func TestP40InTwoParts(t *testing.T) {
	m := busyMachine(t)
	var events []impl.Event
	for n := range int64(80) {
		events = append(events, inEvent(3*n, 7, n), lineEvent(3*n+n%2, n%7))
	}
	for first := range int64(241) {
		checkEventParts(t, "busy", m, events, first, 240-first)
	}
}

func TestP40OfRandomMachines(t *testing.T) {
	rng := rand.New(rand.NewSource(2041))
	var told, woken, halts, lost int
	for n := range 3000 {
		m := talkMachine(rng)
		if n%4 == 0 {
			m = shadowMachine(rng)
		}
		steps := oneOf(rng, 0, 1, 10, 60, 120)
		events := randomEvents(rng, m.Count, steps, int(oneOf(rng, 0, 5, 30, 150)))
		what := fmt.Sprintf("machine %d", n)
		got := checkRunEvents(t, what, m, events, steps)
		first := rng.Int63n(steps + 1)
		checkEventParts(t, what, m, events, first, steps-first)
		told += len(got.Told)
		lost += len(got.Told) - (len(got.Machine.Outs) - len(m.Outs))
		halts += int(got.Machine.State / 2)
		if got.Machine.Trace != impl.RunMachine(m, steps).Machine.Trace {
			woken++
		}
		if t.Failed() {
			return
		}
	}
	if told < 5000 || woken < 500 || halts < 100 || lost < 100 {
		t.Errorf("too little happens: %d told, %d other runs by events, %d halts, %d lost", told, woken, halts, lost)
	}
}

func TestRunEventsWithoutEventsIsRunMachine(t *testing.T) {
	rng := rand.New(rand.NewSource(2042))
	instrs := everyInstr()
	for n := range 1500 {
		m := randomMachine(rng, wordOfInstr(instrs[rng.Intn(len(instrs))]))
		passed := []impl.Event{lineEvent(0, 1), inEvent(max(m.Count-1, 0), 1, 1), lineEvent(endCount, 6)}
		if m.Count == 0 {
			passed = nil
		}
		got := impl.RunEvents(m, passed, 40)
		checkRun(t, fmt.Sprintf("machine %d", n), impl.MachineRun{Code: got.Code, Machine: got.Machine, Steps: got.Steps}, impl.RunMachine(m, 40))
	}
	m := impl.NewMachine(emptyMemory(1))
	m.Count = math.MaxInt64
	checkNumber(t, "a Count that is none", impl.RunEvents(m, nil, 0).Code, impl.ErrForm)
}

func TestAnswersOfRunEventsAreNewMemory(t *testing.T) {
	m := sampleMachine(wordOfText(t, "out r1, 3"))
	room := make([]impl.PortValue, 3, 10)
	m.Ins = room
	before := copyMachine(m)
	events := make([]impl.Event, 1, 5)
	events[0] = inEvent(5000, 8, 8)
	for _, state := range []int64{impl.StateGo, impl.StateWait, impl.StateHalt} {
		m.State, before.State = state, state
		for _, steps := range []int64{0, 1, 5} {
			got := impl.RunEvents(m, events, steps)
			spoilMachine(got.Machine)
			pair := impl.RunPair(m, events, steps, 2, 1)
			spoilMachine(pair.Machine)
			checkMachine(t, "what was handed in", m, before)
		}
	}
	checkPorts(t, "the room behind Ins", room[:4], make([]impl.PortValue, 4))
	checkEvents(t, "the room behind events", events[:5], []impl.Event{inEvent(5000, 8, 8), {}, {}, {}, {}})
}

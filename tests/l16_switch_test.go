package tests

import (
	"fmt"
	"math"
	"math/rand"
	"slices"
	"strings"
	"testing"

	"loop.example/g00038/impl"
)

func entryFor(w impl.Switch, net int64, addr int64) (impl.SwEntry, int) {
	at := slices.IndexFunc(w.Table, func(e impl.SwEntry) bool { return e.Net == net && e.Addr == addr })
	if at < 0 {
		return impl.SwEntry{}, at
	}
	return w.Table[at], at
}

func checkEntry(t *testing.T, what string, w impl.Switch, at int, want impl.SwEntry) {
	t.Helper()
	got, place := entryFor(w, want.Net, want.Addr)
	checkEqual(t, what+": entry", got, want)
	checkEqual(t, what+": its place", place, at)
}

func TestRunSwitchRefusesWhatIsTooLongOrWrong(t *testing.T) {
	wrong := changedSwitch(sampleSwitch(), func(w *impl.Switch) { w.Age = 0 })
	for what, w := range map[string]impl.Switch{"right": sampleSwitch(), "wrong": wrong, "none": {}} {
		for _, count := range []int{0, 1, 999, 1000, 1001, 5000} {
			want := plainSwitchRun(w, make([]impl.SwOp, count))
			got := checkSwRun(t, fmt.Sprintf("%s, %d ops", what, count), w, make([]impl.SwOp, count))
			if count > 1000 {
				checkNumber(t, what, got.Code, impl.ErrSize)
			}
			checkNumber(t, what, int64(len(got.Outs)), int64(len(want.Outs)))
		}
	}
	none := impl.RunSwitch(sampleSwitch(), nil)
	checkNumber(t, "no op", none.Code, impl.OK)
	checkSwitch(t, "no op", none.Switch, sampleSwitch())
}

func TestSwitchOpsOfNoKind(t *testing.T) {
	for _, kind := range []int64{0, 5, -1, 1000, math.MaxInt64, math.MinInt64} {
		op := impl.SwOp{Kind: kind, Port: 1, Time: 200, Frame: netFrame(0, 1, 2, "a")}
		w := checkSwOps(t, fmt.Sprintf("kind %d", kind), sampleSwitch(), []impl.SwOp{op}, swCodes(impl.ErrForm)...)
		checkSwitch(t, "behind it", w, sampleSwitch())
	}
}

func TestSwTickRefusesTimes(t *testing.T) {
	for time, code := range map[int64]int64{
		100: impl.OK, 101: impl.OK, 1<<40 - 1: impl.OK, 1 << 40: impl.OK,
		99: impl.ErrForm, 0: impl.ErrForm, -1: impl.ErrForm, 1<<40 + 1: impl.ErrForm, math.MaxInt64: impl.ErrForm, math.MinInt64: impl.ErrForm,
	} {
		w := checkSwOps(t, fmt.Sprintf("Time %d", time), sampleSwitch(), []impl.SwOp{swTick(time)}, swCodes(code)...)
		if code != impl.OK {
			checkSwitch(t, "behind a refused tick", w, sampleSwitch())
			continue
		}
		checkNumber(t, "Time", w.Time, time)
	}
	w := checkSwOps(t, "backwards", sampleSwitch(), []impl.SwOp{swTick(103), swTick(102), swTick(103), swTick(104)}, swCodes(0, impl.ErrForm, 0, 0)...)
	checkNumber(t, "backwards", w.Time, 104)
	last := changedSwitch(sampleSwitch(), func(w *impl.Switch) { w.Time = 1 << 40 })
	checkSwOps(t, "the last Time", last, []impl.SwOp{swTick(1 << 40), swTick(1<<40 + 1)}, swCodes(0, impl.ErrForm)...)
	first := changedSwitch(sampleSwitch(), func(w *impl.Switch) { w.Time, w.Table = 0, nil })
	checkSwOps(t, "the first Time", first, []impl.SwOp{swTick(-1), swTick(0), swTick(1 << 40)}, swCodes(impl.ErrForm, 0, 0)...)
}

func TestSwTickLetsLevelsGrow(t *testing.T) {
	for _, c := range []struct{ rate, burst, level, time, want int64 }{
		{3, 100, 10, 0, 10}, {3, 100, 10, 1, 13}, {3, 100, 10, 29, 97}, {3, 100, 10, 30, 100}, {3, 100, 10, 31, 100},
		{0, 100, 10, 1000, 10}, {1, 0, 0, 9, 0}, {7, 20, 20, 9, 20}, {10, 25, 0, 2, 20}, {10, 25, 0, 3, 25},
		{1000000, 1000000, 0, 1, 1000000}, {1000000, 1000000, 1000000, 1<<40 - 100, 1000000}, {1000000, 5, 1, 1<<40 - 100, 5}, {1, 1000000, 0, 1<<40 - 100, 1000000},
	} {
		for at := range 8 {
			w := changedSwitch(sampleSwitch(), func(w *impl.Switch) {
				w.Ports[at].Rate, w.Ports[at].Burst, w.Ports[at].Level = c.rate, c.burst, c.level
			})
			what := fmt.Sprintf("port %d: %+v", at, c)
			behind := checkSwOps(t, what, w, []impl.SwOp{swTick(100 + c.time)}, swCodes(0)...)
			checkNumber(t, what, behind.Ports[at].Level, c.want)
		}
	}
	w := checkSwOps(t, "a port that is down grows too", sampleSwitch(), []impl.SwOp{swTick(105), swTick(105), swTick(106)}, swCodes(0, 0, 0)...)
	checkNumber(t, "the Level of the one that is down", w.Ports[4].Level, 4018)
}

func TestSwTickForgetsWhatIsOld(t *testing.T) {
	// The sample's entries were Seen at 95, 100, 92, 96, 97 and 90, and Age is 10.
	for time, left := range map[int64][]int64{
		100: {95, 100, 92, 96, 97, 90}, 101: {95, 100, 92, 96, 97}, 102: {95, 100, 92, 96, 97}, 103: {95, 100, 96, 97},
		105: {95, 100, 96, 97}, 106: {100, 96, 97}, 107: {100, 97}, 108: {100}, 110: {100}, 111: nil, 1 << 40: nil,
	} {
		w := checkSwOps(t, fmt.Sprintf("Time %d", time), sampleSwitch(), []impl.SwOp{swTick(time)}, swCodes(0)...)
		checkNumbers(t, fmt.Sprintf("left at %d", time), tableSeen(w.Table), left)
	}
	for seen, left := range map[int64]int{89: 0, 90: 1, 91: 1, 100: 1, 0: 0} {
		w := changedSwitch(sampleSwitch(), func(w *impl.Switch) { w.Table = []impl.SwEntry{{Net: 5, Addr: 1, Seen: seen}} })
		behind := checkSwOps(t, fmt.Sprintf("Seen %d at the same Time", seen), w, []impl.SwOp{swTick(100)}, swCodes(0)...)
		checkEqual(t, fmt.Sprintf("left of Seen %d", seen), len(behind.Table), left)
	}
	early := changedSwitch(sampleSwitch(), func(w *impl.Switch) {
		w.Time, w.Table = 3, []impl.SwEntry{{Net: 5, Addr: 1, Seen: 0}}
	})
	checkEqual(t, "an Age above all Time", len(checkSwOps(t, "early", early, []impl.SwOp{swTick(10)}, swCodes(0)...).Table), 1)
	again := checkSwOps(t, "seen anew", sampleSwitch(), []impl.SwOp{swTick(105), swSend(0, netFrame(0, 1, 2, "")), swTick(115)}, swCodes(0)[0], reach(netFrame(0, 1, 2, ""), map[int64]int64{2: 5}), impl.SwOut{})
	checkEntry(t, "seen anew", again, 0, impl.SwEntry{Net: 5, Addr: 1, Port: 0, Seen: 105})
}

func TestSwUpAndSwDown(t *testing.T) {
	for _, port := range []int64{-1, 8, 9, 16, math.MaxInt64, math.MinInt64} {
		w := checkSwOps(t, fmt.Sprintf("port %d", port), sampleSwitch(), []impl.SwOp{swUp(port), swDown(port)}, swCodes(impl.ErrNone, impl.ErrNone)...)
		checkSwitch(t, "no such port", w, sampleSwitch())
	}
	for at := range int64(8) {
		isUp := sampleSwitch().Ports[at].Up
		same, other := swDown(at), swUp(at)
		if isUp {
			same, other = other, same
		}
		w := checkSwOps(t, fmt.Sprintf("port %d is so", at), sampleSwitch(), []impl.SwOp{same}, swCodes(impl.ErrState)...)
		checkSwitch(t, "it is so", w, sampleSwitch())
		w = checkSwOps(t, fmt.Sprintf("port %d turned", at), sampleSwitch(), []impl.SwOp{other, other, same, same}, swCodes(0, impl.ErrState, 0, impl.ErrState)...)
		checkEqual(t, "turned twice", w.Ports[at].Up, isUp)
	}
}

func TestWhatGoesOfTableWithAPort(t *testing.T) {
	for at := range int64(8) {
		for _, ops := range [][]impl.SwOp{{swDown(at)}, {swUp(at)}} {
			w := sampleSwitch()
			goes := w.Ports[at].Up && ops[0].Kind == impl.SwDown
			want := slices.DeleteFunc(sampleSwitch().Table, func(e impl.SwEntry) bool { return goes && e.Port == at })
			got := checkSwRun(t, fmt.Sprintf("kind %d of port %d", ops[0].Kind, at), w, ops)
			if !slices.Equal(got.Switch.Table, want) {
				t.Errorf("kind %d of port %d: got %+v, want %+v", ops[0].Kind, at, got.Switch.Table, want)
			}
		}
	}
	w := checkSwOps(t, "one that is down already", sampleSwitch(), []impl.SwOp{swDown(4)}, swCodes(impl.ErrState)...)
	checkEntry(t, "what leads to one that is down", w, 3, impl.SwEntry{Net: 5, Addr: 44, Port: 4, Seen: 96})
	w = checkSwOps(t, "up", sampleSwitch(), []impl.SwOp{swUp(4)}, swCodes(0)...)
	checkEntry(t, "what leads to one that comes up", w, 3, impl.SwEntry{Net: 5, Addr: 44, Port: 4, Seen: 96})
	all := changedSwitch(sampleSwitch(), func(w *impl.Switch) {
		w.Table = manyEntries(16, true)
		for at := range w.Table {
			w.Table[at].Port = 3
		}
	})
	checkEqual(t, "all of Table", len(checkSwOps(t, "all of Table", all, []impl.SwOp{swDown(3)}, swCodes(0)...).Table), 0)
}

// sentFrame is one that is sent at a port of the sample switch, and the code it is answered with.
type sentFrame struct {
	what string
	f    impl.Frame
	code int64
}

func longText(size int) string { return strings.Repeat("x", size) }

func TestSwSendRefusals(t *testing.T) {
	for _, c := range []struct {
		port int64
		sentFrame
	}{
		{0, sentFrame{"nothing wrong", netFrame(0, 1, 2, ""), impl.OK}},
		{0, sentFrame{"a Text of 1500", netFrame(0, 1, 2, longText(1500)), impl.OK}},
		{0, sentFrame{"a Text of 1501", netFrame(0, 1, 2, longText(1501)), impl.ErrForm}},
		{0, sentFrame{"a Src for all", netFrame(0, everybody, 2, ""), impl.ErrForm}},
		{0, sentFrame{"a Dst behind all", netFrame(0, 1, everybody+1, ""), impl.ErrForm}},
		{0, sentFrame{"a Net behind all", netFrame(4096, 1, 2, ""), impl.ErrForm}},
		{0, sentFrame{"a plain port's own Net", netFrame(5, 1, 2, ""), impl.ErrRight}},
		{0, sentFrame{"another Net at a plain port", netFrame(6, 1, 2, ""), impl.ErrRight}},
		{2, sentFrame{"no Net at a shared port", netFrame(0, 1, 2, ""), impl.ErrRight}},
		{2, sentFrame{"one of its Nets", netFrame(5, 1, 2, ""), impl.OK}},
		{2, sentFrame{"the other one", netFrame(6, 1, 2, ""), impl.OK}},
		{2, sentFrame{"none of its Nets", netFrame(7, 1, 2, ""), impl.ErrRight}},
		{6, sentFrame{"a shared port's Owner", netFrame(5, 77, 2, ""), impl.OK}},
		{6, sentFrame{"not a shared port's Owner", netFrame(5, 76, 2, ""), impl.ErrRight}},
		{6, sentFrame{"its Owner in none of its Nets", netFrame(6, 77, 2, ""), impl.ErrRight}},
		{6, sentFrame{"0, which owns nothing", netFrame(5, 0, 2, ""), impl.ErrRight}},
		{7, sentFrame{"a plain port's Owner", netFrame(0, 88, 2, ""), impl.OK}},
		{7, sentFrame{"not a plain port's Owner", netFrame(0, 77, 2, ""), impl.ErrRight}},
		{7, sentFrame{"its Owner with a Net", netFrame(5, 88, 2, ""), impl.ErrRight}},
		{7, sentFrame{"its Owner as Dst", netFrame(0, 1, 88, ""), impl.ErrRight}},
		{4, sentFrame{"a port that is down", netFrame(0, 1, 2, ""), impl.ErrState}},
		{-1, sentFrame{"a port below 0", netFrame(0, 1, 2, ""), impl.ErrNone}},
		{8, sentFrame{"a port behind all", netFrame(0, 1, 2, ""), impl.ErrNone}},
		{math.MaxInt64, sentFrame{"the greatest port", netFrame(0, 1, 2, ""), impl.ErrNone}},
		{math.MinInt64, sentFrame{"the least port", netFrame(0, 1, 2, ""), impl.ErrNone}},
	} {
		got := checkSwRun(t, c.what, sampleSwitch(), []impl.SwOp{swSend(c.port, c.f)})
		checkNumber(t, c.what, got.Outs[0].Code, c.code)
		if c.code != impl.OK {
			checkSwitch(t, c.what+": nothing changes", got.Switch, sampleSwitch())
			checkEqual(t, c.what+": deliveries", len(got.Outs[0].Deliveries), 0)
		}
	}
}

// Each fault with all that come behind it: the first one in the document's order is told.
func TestWhichRefusalOfSwSendComesFirst(t *testing.T) {
	type fault struct {
		code int64
		put  func(w *impl.Switch, op *impl.SwOp)
	}
	owned := func(w *impl.Switch, _ *impl.SwOp) { w.Ports[0].Owner = 9 }
	netted := func(_ *impl.Switch, op *impl.SwOp) { op.Frame.Net = 5 }
	faults := []fault{
		{impl.ErrNone, func(_ *impl.Switch, op *impl.SwOp) { op.Port = 8 }},
		{impl.ErrState, func(w *impl.Switch, _ *impl.SwOp) { w.Ports[0].Up = false }},
		{impl.ErrForm, func(_ *impl.Switch, op *impl.SwOp) { op.Frame.Dst = -1 }},
		{impl.ErrRight, owned},
		{impl.ErrLimit, func(w *impl.Switch, _ *impl.SwOp) { w.Ports[0].Level = 0 }},
	}
	for chosen := range 1 << len(faults) {
		for n, right := range []func(w *impl.Switch, op *impl.SwOp){owned, netted} {
			w, op, code := sampleSwitch(), swSend(0, netFrame(0, 1, 2, "a")), int64(impl.OK)
			faults[3].put = right
			for at, f := range faults {
				if chosen>>at&1 == 0 {
					continue
				}
				f.put(&w, &op)
				if code == impl.OK {
					code = f.code
				}
			}
			got := checkSwRun(t, fmt.Sprintf("faults %b, right %d", chosen, n), w, []impl.SwOp{op})
			checkNumber(t, fmt.Sprintf("faults %b, right %d", chosen, n), got.Outs[0].Code, code)
		}
	}
}

func TestSwSendCosts(t *testing.T) {
	for _, c := range []struct {
		size  int
		level int64
		code  int64
	}{
		{0, 14, impl.OK}, {0, 13, impl.ErrLimit}, {0, 0, impl.ErrLimit}, {0, 15, impl.OK}, {1, 15, impl.OK}, {1, 14, impl.ErrLimit},
		{1500, 1514, impl.OK}, {1500, 1513, impl.ErrLimit}, {1500, 1500, impl.ErrLimit}, {1500, 1515, impl.OK},
	} {
		for _, port := range []int64{0, 2} {
			net := map[int64]int64{0: 0, 2: 5}[port]
			w := changedSwitch(sampleSwitch(), func(w *impl.Switch) { w.Ports[port].Level = c.level })
			what := fmt.Sprintf("port %d, %d bytes, Level %d", port, c.size, c.level)
			got := checkSwRun(t, what, w, []impl.SwOp{swSend(port, netFrame(net, 3, 9, longText(c.size)))})
			checkNumber(t, what, got.Outs[0].Code, c.code)
			left := c.level
			if c.code == impl.OK {
				left -= int64(c.size) + 14
			}
			checkNumber(t, what+": what is left", got.Switch.Ports[port].Level, left)
			checkNumber(t, what+": who gets it pays nothing", got.Switch.Ports[1].Level, 4000)
		}
	}
}

// A frame that comes out nowhere costs, too, and what it cost comes back with time.
func TestSwSendUntilNothingIsLeft(t *testing.T) {
	w := changedSwitch(sampleSwitch(), func(w *impl.Switch) { w.Ports[0].Burst, w.Ports[0].Level = 40, 40 })
	f := netFrame(0, 1, 1, "abcdef")
	ops := []impl.SwOp{swSend(0, f), swSend(0, f), swSend(0, f), swTick(106), swSend(0, f), swTick(107), swSend(0, f), swSend(0, f)}
	behind := checkSwOps(t, "40", w, ops, swCodes(0, 0, impl.ErrLimit, 0, impl.ErrLimit, 0, 0, impl.ErrLimit)...)
	checkNumber(t, "what is left", behind.Ports[0].Level, 1)
}

func TestSwSendLearns(t *testing.T) {
	for _, c := range []struct {
		what string
		port int64
		net  int64
		src  int64
		at   int
		want impl.SwEntry
	}{
		{"a new one", 0, 0, 3, 6, impl.SwEntry{Net: 5, Addr: 3, Port: 0, Seen: 100}},
		{"a new one at a shared port", 2, 6, 3, 6, impl.SwEntry{Net: 6, Addr: 3, Port: 2, Seen: 100}},
		{"the address 0", 0, 0, 0, 6, impl.SwEntry{Net: 5, Addr: 0, Port: 0, Seen: 100}},
		{"the last address", 0, 0, everybody - 1, 6, impl.SwEntry{Net: 5, Addr: everybody - 1, Port: 0, Seen: 100}},
		{"known at this port", 0, 0, 1, 0, impl.SwEntry{Net: 5, Addr: 1, Port: 0, Seen: 100}},
		{"known at another one", 1, 0, 1, 0, impl.SwEntry{Net: 5, Addr: 1, Port: 1, Seen: 100}},
		{"known at another one, shared", 2, 6, 1, 2, impl.SwEntry{Net: 6, Addr: 1, Port: 2, Seen: 100}},
		{"known in another net", 5, 7, 1, 6, impl.SwEntry{Net: 7, Addr: 1, Port: 5, Seen: 100}},
		{"known in one of two nets", 3, 0, 2, 6, impl.SwEntry{Net: 6, Addr: 2, Port: 3, Seen: 100}},
		{"known at one that is down", 0, 0, 44, 3, impl.SwEntry{Net: 5, Addr: 44, Port: 0, Seen: 100}},
		{"known at one that is in another net", 1, 0, 66, 4, impl.SwEntry{Net: 5, Addr: 66, Port: 1, Seen: 100}},
	} {
		for _, dst := range []int64{2, c.src, 9, everybody} {
			got := checkSwRun(t, c.what, sampleSwitch(), []impl.SwOp{swSend(c.port, netFrame(c.net, c.src, dst, ""))})
			checkNumber(t, c.what, got.Outs[0].Code, impl.OK)
			checkEntry(t, c.what, got.Switch, c.at, c.want)
			others := slices.DeleteFunc(slices.Clone(got.Switch.Table), func(e impl.SwEntry) bool { return e == c.want })
			was := slices.DeleteFunc(sampleSwitch().Table, func(e impl.SwEntry) bool { return e.Net == c.want.Net && e.Addr == c.want.Addr })
			if !slices.Equal(others, was) {
				t.Errorf("%s: the others: got %+v, want %+v", c.what, others, was)
			}
		}
	}
}

func TestSwSendThatIsRefusedLearnsNothing(t *testing.T) {
	ops := []impl.SwOp{swSend(4, netFrame(0, 3, 9, "")), swSend(0, netFrame(5, 3, 9, "")), swSend(7, netFrame(0, 3, 9, "")), swSend(0, netFrame(0, 3, -1, "")), swSend(9, netFrame(0, 3, 9, ""))}
	w := checkSwOps(t, "refused", sampleSwitch(), ops, swCodes(impl.ErrState, impl.ErrRight, impl.ErrRight, impl.ErrForm, impl.ErrNone)...)
	checkSwitch(t, "refused", w, sampleSwitch())
}

// fullSwitch has a Table of 16 in net 5, for the addresses 0 to 15, seen at those times.
func fullSwitch(seen ...int64) impl.Switch {
	return changedSwitch(sampleSwitch(), func(w *impl.Switch) {
		w.Table = manyEntries(16, true)
		for at := range w.Table {
			w.Table[at].Seen, w.Table[at].Port = 50+int64(at), 1
		}
		for at, time := range seen {
			w.Table[at].Seen = time
		}
	})
}

func tableSeen(table []impl.SwEntry) []int64 {
	var seen []int64
	for _, e := range table {
		seen = append(seen, e.Seen)
	}
	return seen
}

func tableAddrs(table []impl.SwEntry) []int64 {
	var addrs []int64
	for _, e := range table {
		addrs = append(addrs, e.Addr)
	}
	return addrs
}

func TestSwSendWhereTableIsFull(t *testing.T) {
	high := slices.Repeat([]int64{90}, 16)
	with := func(times map[int]int64) []int64 {
		seen := slices.Clone(high)
		for at, time := range times {
			seen[at] = time
		}
		return seen
	}
	for _, c := range []struct {
		what string
		seen []int64
		goes int64
	}{
		{"the first is the least", nil, 0},
		{"all alike", high, 0},
		{"a middle one", with(map[int]int64{7: 10}), 7},
		{"the last one", with(map[int]int64{15: 10}), 15},
		{"two of the least", with(map[int]int64{4: 10, 9: 10}), 4},
		{"two of the least at the end", with(map[int]int64{14: 0, 15: 0}), 14},
		{"a less one behind two", with(map[int]int64{3: 11, 5: 11, 12: 10}), 12},
		{"a falling row", inSteps(90, -1, 16), 15},
	} {
		w := fullSwitch(c.seen...)
		want := append(slices.DeleteFunc(inSteps(0, 1, 16), func(n int64) bool { return n == c.goes }), 99)
		got := checkSwOps(t, c.what, w, []impl.SwOp{swSend(0, netFrame(0, 99, 99, ""))}, impl.SwOut{})
		checkNumbers(t, c.what, tableAddrs(got.Table), want)
		checkEntry(t, c.what, got, 15, impl.SwEntry{Net: 5, Addr: 99, Port: 0, Seen: 100})
		known := checkSwOps(t, c.what+", a known Src", w, []impl.SwOp{swSend(0, netFrame(0, c.goes, c.goes, ""))}, impl.SwOut{})
		checkNumbers(t, c.what+", a known Src", tableAddrs(known.Table), inSteps(0, 1, 16))
		other := checkSwRun(t, c.what+", in another net", w, []impl.SwOp{swSend(2, netFrame(6, 3, 3, ""))}).Switch
		checkEntry(t, c.what+", in another net", other, 15, impl.SwEntry{Net: 6, Addr: 3, Port: 2, Seen: 100})
	}
}

func TestSwSendWhereTableBecomesFull(t *testing.T) {
	w := changedSwitch(sampleSwitch(), func(w *impl.Switch) { w.Table = nil })
	var ops []impl.SwOp
	for n := range int64(40) {
		ops = append(ops, swSend(n%2, netFrame(0, n, n, "")))
	}
	got := checkSwRun(t, "40 addresses", w, ops).Switch
	checkNumbers(t, "the last 16", tableAddrs(got.Table), inSteps(24, 1, 16))
	got = checkSwRun(t, "with time between", w, append(slices.Clone(ops[:16]), swTick(101), ops[3], ops[0], ops[20], ops[21])).Switch
	checkNumbers(t, "those not seen anew go", tableAddrs(got.Table), []int64{0, 3, 4, 5, 6, 7, 8, 9, 10, 11, 12, 13, 14, 15, 20, 21})
}

// What goes for a new Src is forgotten ahead of the frame's way.
func TestSwSendToTheOneThatGoesForItsSrc(t *testing.T) {
	f := netFrame(0, 99, 0, "")
	checkSwOps(t, "to the one that goes", fullSwitch(), []impl.SwOp{swSend(0, f)}, reach(f, map[int64]int64{1: 0, 2: 5, 6: 5, 7: 0}))
	f.Dst = 1
	checkSwOps(t, "to one that stays", fullSwitch(), []impl.SwOp{swSend(0, f)}, reach(f, map[int64]int64{1: 0}))
}

func TestSwSendDelivers(t *testing.T) {
	everywhere := map[int64]int64{1: 0, 2: 5, 6: 5, 7: 0}
	for _, c := range []struct {
		what   string
		port   int64
		f      impl.Frame
		places map[int64]int64
	}{
		{"known at a shared port", 0, netFrame(0, 1, 2, "a"), map[int64]int64{2: 5}},
		{"known at a plain port", 1, netFrame(0, 3, 1, "a"), map[int64]int64{0: 0}},
		{"known at the one it came from", 2, netFrame(5, 3, 2, "a"), nil},
		{"to itself", 0, netFrame(0, 1, 1, "a"), nil},
		{"to itself, new", 0, netFrame(0, 3, 3, "a"), nil},
		{"to itself, known elsewhere", 1, netFrame(0, 2, 2, "a"), nil},
		{"known at one that is down", 0, netFrame(0, 1, 44, "a"), nil},
		{"known at one that is not in this net", 0, netFrame(0, 1, 66, "a"), nil},
		{"not known", 0, netFrame(0, 1, 9, "a"), everywhere},
		{"for all", 0, netFrame(0, 1, everybody, "a"), everywhere},
		{"known in another net alone", 0, netFrame(0, 1, 8, "a"), everywhere},
		{"for all, from a shared port", 2, netFrame(5, 1, everybody, "a"), map[int64]int64{0: 0, 1: 0, 6: 5, 7: 0}},
		{"in its other net", 2, netFrame(6, 2, everybody, "a"), map[int64]int64{3: 0, 5: 6}},
		{"not known in its other net", 2, netFrame(6, 2, 66, "a"), map[int64]int64{3: 0, 5: 6}},
		{"shared to plain", 5, netFrame(6, 2, 1, "a"), map[int64]int64{3: 0}},
		{"shared to shared", 2, netFrame(6, 2, 8, "a"), map[int64]int64{5: 6}},
		{"plain to shared", 3, netFrame(0, 2, 8, "a"), map[int64]int64{5: 6}},
		{"a net that nobody else is in", 5, netFrame(7, 2, everybody, "a"), nil},
		{"not known where nobody else is", 6, netFrame(9, 77, 5, "a"), nil},
		{"to an owned port", 0, netFrame(0, 1, 88, "a"), everywhere},
		{"from an owned port", 7, netFrame(0, 88, 1, "a"), map[int64]int64{0: 0}},
		{"from an owned shared port", 6, netFrame(5, 77, 9, "a"), map[int64]int64{0: 0, 1: 0, 2: 5, 7: 0}},
		{"an empty Text", 0, netFrame(0, 1, 2, ""), map[int64]int64{2: 5}},
		{"a Text of 1500 bytes", 0, netFrame(0, 1, 2, longText(1500)), map[int64]int64{2: 5}},
	} {
		checkSwOps(t, c.what, sampleSwitch(), []impl.SwOp{swSend(c.port, c.f)}, reach(c.f, c.places))
	}
}

func TestSwSendAsPortsComeAndGo(t *testing.T) {
	all := netFrame(0, 1, everybody, "hi")
	to := netFrame(0, 1, 2, "hi")
	ops := []impl.SwOp{swDown(1), swDown(6), swSend(0, all), swUp(4), swSend(0, all), swSend(0, to), swDown(2), swSend(0, to), swUp(2), swSend(0, to), swSend(2, netFrame(5, 2, 1, "")), swSend(0, to)}
	rest := reach(to, map[int64]int64{2: 5, 4: 0, 7: 0})
	checkSwOps(t, "ports that come and go", sampleSwitch(), ops,
		impl.SwOut{}, impl.SwOut{}, reach(all, map[int64]int64{2: 5, 7: 0}), impl.SwOut{}, reach(all, map[int64]int64{2: 5, 4: 0, 7: 0}),
		reach(to, map[int64]int64{2: 5}), impl.SwOut{}, reach(to, map[int64]int64{4: 0, 7: 0}), impl.SwOut{}, rest,
		reach(netFrame(5, 2, 1, ""), map[int64]int64{0: 0}), reach(to, map[int64]int64{2: 5}))
}

// An address that moves is followed, and one that was not seen for long is looked for everywhere.
func TestSwSendFollowsWhoMoves(t *testing.T) {
	back := netFrame(5, 2, 1, "")
	ops := []impl.SwOp{swSend(2, back), swSend(1, netFrame(0, 1, 1, "")), swSend(2, back), swTick(110), swSend(2, back), swTick(111), swSend(2, back)}
	everywhere := reach(back, map[int64]int64{0: 0, 1: 0, 6: 5, 7: 0})
	checkSwOps(t, "who moves", sampleSwitch(), ops, reach(back, map[int64]int64{0: 0}), impl.SwOut{}, reach(back, map[int64]int64{1: 0}), impl.SwOut{}, reach(back, map[int64]int64{1: 0}), impl.SwOut{}, everywhere)
}

func TestSixteenPortsAreToldInOrder(t *testing.T) {
	w := impl.Switch{Ports: manyPorts(16), Age: 10}
	for at := range w.Ports {
		if at%3 == 0 {
			w.Ports[at] = sharedPort(inSteps(1, 1, 20)...)
		}
	}
	for from := range int64(16) {
		f := netFrame(0, from, everybody, "x")
		if from%3 == 0 {
			f.Net = 5
		}
		places := map[int64]int64{}
		for to := range int64(16) {
			if to != from {
				places[to] = map[bool]int64{true: 5, false: 0}[to%3 == 0]
			}
		}
		for range 20 {
			checkSwOps(t, fmt.Sprintf("from %d", from), w, []impl.SwOp{swSend(from, f)}, reach(f, places))
		}
	}
	one := impl.Switch{Ports: manyPorts(1), Age: 10}
	checkSwOps(t, "a port alone", one, []impl.SwOp{swSend(0, netFrame(0, 1, everybody, "")), swSend(0, netFrame(0, 2, 1, ""))}, impl.SwOut{}, impl.SwOut{})
}

// roomySwitch has lists with room behind their ends, where 99 stands.
func roomySwitch(w impl.Switch) impl.Switch {
	w = copySwitch(w)
	w.Ports = append(slices.Clone(w.Ports), impl.SwPort{Net: 99})[:len(w.Ports)]
	w.Table = append(slices.Clone(w.Table), impl.SwEntry{Net: 99}, impl.SwEntry{Net: 99})[:len(w.Table)]
	for at := range w.Ports {
		nets := w.Ports[at].Nets
		w.Ports[at].Nets = append(slices.Clone(nets), 99, 99)[:len(nets)]
	}
	return w
}

func checkSwitchRoom(t *testing.T, what string, w impl.Switch) {
	t.Helper()
	checkNumber(t, what+": behind Ports", w.Ports[:len(w.Ports)+1][len(w.Ports)].Net, 99)
	for _, e := range w.Table[len(w.Table) : len(w.Table)+2] {
		checkEqual(t, what+": behind Table", e, impl.SwEntry{Net: 99})
	}
	for _, p := range w.Ports {
		checkNumbers(t, what+": behind Nets", p.Nets[len(p.Nets):len(p.Nets)+2], []int64{99, 99})
	}
}

// spoilRun writes into all lists of an answer, and behind their ends.
func spoilRun(run impl.SwRun) {
	for at := range run.Switch.Ports {
		p := &run.Switch.Ports[at]
		for n := range p.Nets {
			p.Nets[n] = 77
		}
		_ = append(p.Nets, 77, 77)
		*p = impl.SwPort{Net: 77}
	}
	for at := range run.Switch.Table {
		run.Switch.Table[at] = impl.SwEntry{Net: 77}
	}
	_ = append(run.Switch.Ports, impl.SwPort{Net: 77})
	_ = append(run.Switch.Table, impl.SwEntry{Net: 77}, impl.SwEntry{Net: 77})
}

func TestAnswersOfRunSwitchAreNewMemory(t *testing.T) {
	rng := rand.New(rand.NewSource(1602))
	for n := range 300 {
		w := roomySwitch(swRandom(rng))
		before := copySwitch(w)
		ops := swRandomOps(rng, w, rng.Intn(40))
		run := checkSwRun(t, fmt.Sprintf("run %d", n), w, ops)
		checkSwitchRoom(t, "behind a run", w)
		spoilRun(run)
		checkSwitch(t, "what was handed in", w, before)
		checkSwitchRoom(t, "behind a write into the answer", w)
		for at, out := range run.Outs {
			for k := range out.Deliveries {
				out.Deliveries[k] = impl.SwDelivery{Port: int64(-1 - at)}
			}
			_ = append(out.Deliveries, impl.SwDelivery{Port: int64(-1 - at)})
		}
		for at, out := range run.Outs {
			for _, d := range out.Deliveries {
				checkNumber(t, "one answer's deliveries beside another's", d.Port, int64(-1-at))
			}
		}
	}
}

func TestRunSwitchKeepsNothingForTheNextCall(t *testing.T) {
	ops := []impl.SwOp{swSend(0, netFrame(0, 1, 9, "a")), swSend(2, netFrame(6, 9, 1, "b")), swDown(1), swTick(104), swSend(0, netFrame(0, 3, 9, ""))}
	first := impl.RunSwitch(sampleSwitch(), ops)
	impl.RunSwitch(fullSwitch(), append(slices.Clone(ops), swUp(1), swSend(1, netFrame(0, 1, 9, ""))))
	again := impl.RunSwitch(sampleSwitch(), ops)
	checkSwOuts(t, "once more", again.Outs, first.Outs)
	checkSwitch(t, "once more", again.Switch, first.Switch)
}

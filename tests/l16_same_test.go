package tests

import (
	"fmt"
	"math/rand"
	"slices"
	"testing"

	"loop.example/g00038/impl"
)

// portHears tells whether a port is up and in a network, and which Net a frame has that comes out there.
func portHears(p impl.SwPort, net int64) (hears bool, told int64) {
	if p.Net != 0 {
		return p.Up && p.Net == net, 0
	}
	return p.Up && slices.Contains(p.Nets, net), net
}

// checkDeliveries holds what one send told to the promise, without asking who should have got it.
func checkDeliveries(t *testing.T, what string, w impl.Switch, op impl.SwOp, out impl.SwOut) {
	t.Helper()
	last := int64(-1)
	for _, d := range out.Deliveries {
		if out.Code != impl.OK || op.Kind != impl.SwSend {
			t.Errorf("%s: delivered by kind %d with code %d", what, op.Kind, out.Code)
			return
		}
		if d.Port <= last || d.Port == op.Port || d.Port >= int64(len(w.Ports)) {
			t.Errorf("%s: delivered at %d behind %d, from %d", what, d.Port, last, op.Port)
			return
		}
		last = d.Port
		net := max(w.Ports[op.Port].Net, op.Frame.Net)
		hears, told := portHears(w.Ports[d.Port], net)
		want := op.Frame
		want.Net = told
		checkEqual(t, what+": hears", hears, true)
		checkEqual(t, what+": the frame", d.Frame, want)
	}
}

// switchEvents are what an op met with.
func switchEvents(w impl.Switch, op impl.SwOp, out impl.SwOut) []string {
	events := []string{fmt.Sprintf("op %d code %d", min(max(op.Kind, 0), 5), out.Code)}
	if op.Kind != impl.SwSend || out.Code != impl.OK {
		return events
	}
	from := w.Ports[op.Port]
	net := max(from.Net, op.Frame.Net)
	src, at := entryFor(w, net, op.Frame.Src)
	switch {
	case at >= 0:
		events = append(events, fmt.Sprintf("src known here %v", src.Port == op.Port))
	default:
		events = append(events, fmt.Sprintf("src new full %v", len(w.Table) == 16))
	}
	dst, at := entryFor(w, net, op.Frame.Dst)
	switch {
	case op.Frame.Dst == everybody:
		events = append(events, "dst all")
	case at < 0:
		events = append(events, "dst new")
	default:
		hears, _ := portHears(w.Ports[dst.Port], net)
		events = append(events, fmt.Sprintf("dst known hears %v back %v", hears, dst.Port == op.Port))
	}
	for _, d := range out.Deliveries {
		events = append(events, fmt.Sprintf("from plain %v to plain %v", from.Net != 0, w.Ports[d.Port].Net != 0))
	}
	if len(out.Deliveries) > 1 {
		events = append(events, "several")
	}
	return events
}

func wantedSwitchEvents() []string {
	return []string{
		"op 0 code 1", "op 5 code 1", "op 1 code 0", "op 1 code 1", "op 1 code 5", "op 1 code 6", "op 1 code 7", "op 1 code 8", "op 2 code 0", "op 2 code 1",
		"op 3 code 0", "op 3 code 5", "op 3 code 6", "op 4 code 0", "op 4 code 5", "op 4 code 6",
		"src known here true", "src known here false", "src new full true", "src new full false",
		"dst all", "dst new", "dst known hears true back false", "dst known hears true back true", "dst known hears false back false", "several",
		"from plain true to plain true", "from plain true to plain false", "from plain false to plain true", "from plain false to plain false",
	}
}

func TestP31DeliveredInItsNetworkAlone(t *testing.T) {
	rng := rand.New(rand.NewSource(1631))
	events := map[string]int{}
	for n := range 800 {
		w := swRandom(rng)
		for k, op := range swRandomOps(rng, w, 60) {
			what := fmt.Sprintf("switch %d, op %d %+v", n, k, op)
			run := checkSwRun(t, what, w, []impl.SwOp{op})
			checkNumber(t, what+": it stays right", impl.SwitchFault(run.Switch), impl.OK)
			if t.Failed() {
				return
			}
			checkDeliveries(t, what, w, op, run.Outs[0])
			for _, event := range switchEvents(w, op, run.Outs[0]) {
				events[event]++
			}
			w = run.Switch
		}
	}
	for _, event := range wantedSwitchEvents() {
		if events[event] < 20 {
			t.Errorf("%s: came %d times", event, events[event])
		}
	}
}

// A run in two parts comes to what it comes to in one.
func TestP31LongRuns(t *testing.T) {
	rng := rand.New(rand.NewSource(1635))
	for n := range 60 {
		w := swRandom(rng)
		ops := swRandomOps(rng, w, 1000)
		what := fmt.Sprintf("switch %d", n)
		run := checkSwRun(t, what, w, ops)
		checkNumber(t, what+": it stays right", impl.SwitchFault(run.Switch), impl.OK)
		cut := rng.Intn(1001)
		first := impl.RunSwitch(w, ops[:cut])
		second := impl.RunSwitch(first.Switch, ops[cut:])
		checkSwOuts(t, what+" in two parts", append(first.Outs, second.Outs...), run.Outs)
		checkSwitch(t, what+" in two parts", second.Switch, run.Switch)
		if t.Failed() {
			return
		}
	}
}

// Every port of every kind in few nets: who hears is told by the promise, where Table knows nothing.
func TestP31ToAllWhoHear(t *testing.T) {
	rng := rand.New(rand.NewSource(1636))
	for range 3000 {
		w := swRandom(rng)
		w.Table = nil
		port := rng.Int63n(int64(len(w.Ports)))
		p := &w.Ports[port]
		p.Up, p.Owner, p.Burst, p.Level = true, 0, 1000, 1000
		f := netFrame(0, 3, oneOf(rng, everybody, 4), "text")
		if p.Net == 0 {
			f.Net = oneOf(rng, p.Nets...)
		}
		places := map[int64]int64{}
		for at, other := range w.Ports {
			hears, told := portHears(other, max(p.Net, f.Net))
			if hears && int64(at) != port {
				places[int64(at)] = told
			}
		}
		checkSwOps(t, fmt.Sprintf("%+v from %d of %+v", f, port, w), w, []impl.SwOp{swSend(port, f)}, reach(f, places))
		if t.Failed() {
			return
		}
	}
}

// hostSwitch has a shared port, by which it is joined to other hosts, and a plain one for each net told, all up.
func hostSwitch(rng *rand.Rand, nets []int64) (w impl.Switch, trunk int64) {
	w = impl.Switch{Time: rng.Int63n(100), Age: 1 + rng.Int63n(100)}
	for _, net := range nets {
		w.Ports = append(w.Ports, plainPort(net))
	}
	trunk = int64(rng.Intn(len(w.Ports) + 1))
	shared := slices.Clone(nets)
	slices.Sort(shared)
	w.Ports = slices.Insert(w.Ports, int(trunk), sharedPort(slices.Compact(shared)...))
	return w, trunk
}

// frameAt is the frame that came out at a port, if one did.
func frameAt(out impl.SwOut, port int64) (f impl.Frame, comes bool) {
	for _, d := range out.Deliveries {
		if d.Port == port {
			return d.Frame, true
		}
	}
	return impl.Frame{}, false
}

// throughHosts sends a frame at a plain port of one switch, and what comes out at its shared port, wrapped and unwrapped, at that of the other.
func throughHosts(t *testing.T, here impl.Switch, port int64, trunk int64, f impl.Frame, there impl.Switch, thereTrunk int64) (impl.SwOut, impl.Switch) {
	t.Helper()
	sent := impl.RunSwitch(here, []impl.SwOp{swSend(port, f)})
	crossing, comes := frameAt(sent.Outs[0], trunk)
	checkEqual(t, "it comes to the shared port", comes, true)
	checkEqual(t, "there it says its net", crossing.Net, here.Ports[port].Net)
	read := impl.UnwrapFrame(impl.WrapFrame(crossing, 7, 1, 2))
	checkNumber(t, "unwrapped", read.Code, impl.OK)
	got := impl.RunSwitch(there, []impl.SwOp{swSend(thereTrunk, read.Frame)})
	checkNumber(t, "sent at the other one", got.Outs[0].Code, impl.OK)
	return got.Outs[0], got.Switch
}

func TestP54ThroughTwoSwitches(t *testing.T) {
	rng := rand.New(rand.NewSource(1654))
	for n := range 2000 {
		nets := []int64{1 + rng.Int63n(4095), 1 + rng.Int63n(4095), 4095}
		nets = append(nets, nets[0])
		here, trunk := hostSwitch(rng, nets)
		there, thereTrunk := hostSwitch(rng, nets)
		port := rng.Int63n(5)
		if port == trunk {
			continue
		}
		f, _, _, _ := randomWrap(rng)
		f.Net = 0
		if f.Src == f.Dst {
			continue
		}
		out, _ := throughHosts(t, here, port, trunk, f, there, thereTrunk)
		for at, p := range there.Ports {
			got, comes := frameAt(out, int64(at))
			checkEqual(t, fmt.Sprintf("frame %d at port %d", n, at), comes, p.Net == here.Ports[port].Net)
			if comes {
				checkEqual(t, fmt.Sprintf("frame %d as it went in", n), got, f)
			}
		}
		if t.Failed() {
			return
		}
	}
}

// An answer goes back by what both switches learnt, to the one port it is for.
func TestP54AnAnswerGoesBack(t *testing.T) {
	rng := rand.New(rand.NewSource(1655))
	here, trunk := hostSwitch(rng, []int64{5, 5, 6})
	there, thereTrunk := hostSwitch(rng, []int64{6, 5, 5})
	plain := func(w impl.Switch) int64 {
		return int64(slices.IndexFunc(w.Ports, func(p impl.SwPort) bool { return p.Net == 5 }))
	}
	asks, answers := plain(here), plain(there)
	ask := netFrame(0, 1, 2, "ask")
	here = impl.RunSwitch(here, []impl.SwOp{swSend(asks, netFrame(0, 1, 1, ""))}).Switch
	out, there := throughHosts(t, here, asks, trunk, ask, there, thereTrunk)
	checkEqual(t, "both plain ports hear the ask", len(out.Deliveries), 2)
	answer := netFrame(0, 2, 1, "answer")
	out, _ = throughHosts(t, there, answers, thereTrunk, answer, here, trunk)
	checkSwOuts(t, "the answer", []impl.SwOut{out}, []impl.SwOut{reach(answer, map[int64]int64{asks: 0})})
}

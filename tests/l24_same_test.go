package tests

import (
	"fmt"
	"math/rand"
	"slices"
	"testing"

	"loop.example/g00038/impl"
)

// worldEvents are what an op met with.
func worldEvents(before impl.World, op impl.WorldOp, out impl.WorldOut, behind impl.World) []string {
	kind := fmt.Sprintf("op %d", min(max(op.Kind, 0), 6))
	events := []string{fmt.Sprintf("%s code %d", kind, out.Code)}
	for _, g := range before.Guests {
		now, v := worldGuest(behind, g.Name), vmOf(behind.Cluster, g.Name)
		switch {
		case now.Name == "":
			events = append(events, kind+": a guest is gone")
		case now.Epoch != g.Epoch:
			events = append(events, fmt.Sprintf("%s: anew, was up %v, is up %v, from what was saved %v", kind, g.Up, now.Up, g.Saved != ""))
		case g.Up != now.Up:
			events = append(events, fmt.Sprintf("%s: is up %v", kind, now.Up))
		case g.Up && vmOf(before.Cluster, g.Name).Node != v.Node:
			events = append(events, kind+": moved")
		case g.Up && op.Kind == impl.WoRun && op.Num > 0 && g.Machine.Count == now.Machine.Count:
			events = append(events, fmt.Sprintf("no step, stopped %v", g.Machine.State == impl.StateHalt))
		}
	}
	return events
}

func wantedWorldEvents() []string {
	return []string{
		"op 0 code 1", "op 6 code 1", "op 1 code 0", "op 1 code 1", "op 1 code 2", "op 1 code 3", "op 1 code 5", "op 1 code 6", "op 1 code 10", "op 2 code 0", "op 2 code 1",
		"op 3 code 0", "op 3 code 5", "op 3 code 6", "op 4 code 0", "op 4 code 1", "op 4 code 4", "op 4 code 5", "op 4 code 6",
		"op 5 code 0", "op 5 code 1", "op 5 code 5", "op 5 code 6", "op 5 code 8", "op 1: is up true", "op 5: is up false", "op 5: a guest is gone", "op 5: moved",
		"op 5: anew, was up true, is up true, from what was saved true", "op 5: anew, was up true, is up true, from what was saved false", "op 5: anew, was up true, is up false, from what was saved false",
		"op 5: anew, was up false, is up true, from what was saved true", "op 5: anew, was up false, is up true, from what was saved false", "op 5: anew, was up false, is up false, from what was saved false",
		"no step, stopped true", "no step, stopped false",
	}
}

func randomWorldOps(rng *rand.Rand, w impl.World, count int) []impl.WorldOp {
	var ops []impl.WorldOp
	for range count {
		ops = append(ops, randomWorldOp(rng, w))
	}
	return ops
}

// A right world stays right behind each op, and comes to what is said once more.
func TestP49ARightWorldStaysRight(t *testing.T) {
	t.Parallel()
	rng := rand.New(rand.NewSource(2449))
	machines := guestMachines(rng, 60)
	events := map[string]int{}
	for n := range 160 {
		w := anyWorld(rng, machines)
		for k := range 25 {
			op := randomWorldOp(rng, w)
			what := fmt.Sprintf("world %d, op %d %+v", n, k, op)
			run := checkWorldRun(t, what, w, []impl.WorldOp{op})
			checkNumber(t, what+": WorldFault", impl.WorldFault(run.World), impl.OK)
			checkEqual(t, what+": right, said once more", plainWorldRight(run.World), true)
			if t.Failed() {
				return
			}
			for _, event := range worldEvents(w, op, run.Outs[0], run.World) {
				events[event]++
			}
			w = run.World
		}
	}
	for _, event := range wantedWorldEvents() {
		if events[event] < 4 {
			t.Errorf("%s: %d times", event, events[event])
		}
	}
}

// Long runs in one call are as the plain one's, too.
func TestRunWorldOfLongRuns(t *testing.T) {
	t.Parallel()
	rng := rand.New(rand.NewSource(2450))
	machines := guestMachines(rng, 30)
	for n := range 12 {
		w := anyWorld(rng, machines)
		ops := randomWorldOps(rng, w, 300)
		for at := range ops {
			ops[at].Op.Time = w.Cluster.Time + int64(at/3)
		}
		run := checkWorldRun(t, fmt.Sprintf("run %d", n), w, ops)
		checkNumber(t, "WorldFault behind it", impl.WorldFault(run.World), impl.OK)
	}
}

// byThemselves are guests' machines by name, each of which does what its own guest did, and nothing else.
type byThemselves map[string]impl.Machine

// follow does one op at the machines alone; those that are begun by it are taken from what their guest begins from.
func (b byThemselves) follow(before impl.World, op impl.WorldOp, out impl.WorldOut, behind impl.World) {
	for name, m := range b {
		switch {
		case op.Kind == impl.WoRun && out.Code == impl.OK:
			run := impl.RunMachine(m, op.Num)
			if run.Code == impl.OK {
				b[name] = run.Machine
			}
		case op.Kind == impl.WoIn && op.Name == name && out.Code == impl.OK:
			m.Ins = append(slices.Clone(m.Ins), impl.PortValue{Port: op.Num, Value: op.Value})
			b[name] = m
		}
	}
	for _, g := range behind.Guests {
		old := worldGuest(before, g.Name)
		if g.Up && (!old.Up || old.Epoch != g.Epoch) {
			b[g.Name] = plainBegin(before.Images, g).Machine
		}
	}
	for name := range b {
		if !worldGuest(behind, name).Up {
			delete(b, name)
		}
	}
}

// A guest that runs is what its machine comes to by itself, by RunMachine, since it was begun.
func TestP49GuestsAreWhatTheyComeToByThemselves(t *testing.T) {
	t.Parallel()
	rng := rand.New(rand.NewSource(2451))
	machines := guestMachines(rng, 60)
	steps, begun := 0, 0
	for n := range 150 {
		first := anyWorld(rng, machines)
		w, alone := first, byThemselves{}
		for _, g := range w.Guests {
			if g.Up {
				alone[g.Name] = g.Machine
			}
		}
		var ops []impl.WorldOp
		for k := range 40 {
			op := randomWorldOp(rng, w)
			ops = append(ops, op)
			run := impl.RunWorld(w, []impl.WorldOp{op})
			ahead := len(alone)
			alone.follow(w, op, run.Outs[0], run.World)
			begun += max(0, len(alone)-ahead)
			w = run.World
			ups := 0
			for _, g := range w.Guests {
				if g.Up {
					ups++
					checkMachine(t, fmt.Sprintf("world %d, op %d %+v: %s", n, k, op, g.Name), g.Machine, alone[g.Name])
				}
			}
			checkEqual(t, "who is up", ups, len(alone))
			steps += int(run.Outs[0].Num)
			if t.Failed() {
				return
			}
		}
		checkWorld(t, fmt.Sprintf("world %d: all ops at once", n), impl.RunWorld(first, ops).World, w)
	}
	if steps < 10000 || begun < 250 {
		t.Errorf("but %d steps were done, and %d guests begun", steps, begun)
	}
}

// One guest beside all others, and beside none, comes to the same, whatever is told of the cluster meanwhile.
func TestP49TheOthersDoNotCount(t *testing.T) {
	t.Parallel()
	rng := rand.New(rand.NewSource(2452))
	machines := guestMachines(rng, 60)
	held := 0
	for n := range 100 {
		w := anyWorld(rng, machines)
		if len(w.Guests) == 0 {
			continue
		}
		chosen := w.Guests[rng.Intn(len(w.Guests))].Name
		bare := changedWorld(w, func(w *impl.World) { w.Guests = []impl.WorldGuest{worldGuest(*w, chosen)} })
		ops := randomWorldOps(rng, w, 40)
		beside := impl.RunWorld(w, ops)
		// By itself no op at another guest is done.
		own := slices.DeleteFunc(slices.Clone(ops), func(op impl.WorldOp) bool {
			return op.Kind != impl.WoRun && op.Kind != impl.WoCluster && op.Name != chosen
		})
		alone := impl.RunWorld(bare, own)
		checkCluster(t, fmt.Sprintf("world %d: the cluster", n), beside.World.Cluster, alone.World.Cluster)
		got, want := worldGuest(beside.World, chosen), worldGuest(alone.World, chosen)
		checkGuests(t, fmt.Sprintf("world %d: %s", n, chosen), []impl.WorldGuest{got}, []impl.WorldGuest{want})
		if got.Up && got.Machine.Count > 0 {
			held++
		}
	}
	if held < 20 {
		t.Errorf("but %d were up in the end", held)
	}
}

// checkAnew holds a guest of a node that was fenced to what promise 50 says of it behind the next tick.
func checkAnew(t *testing.T, what string, ahead impl.WorldGuest, behind impl.World) (begun bool) {
	t.Helper()
	v := vmOf(behind.Cluster, ahead.Name)
	if v.Node == "" {
		checkText(t, what+": no node for it", plainBest(behind.Cluster, v), "")
		checkOneGuest(t, what+": no node for it", behind, downGuest(ahead))
		return false
	}
	node := nodeOf(behind.Cluster, v.Node)
	checkEqual(t, what+": its node is Fenced", node.Fenced, false)
	checkNumber(t, what+": Epoch", v.Epoch, ahead.Epoch+1)
	checkOneGuest(t, what, behind, anewGuest(ahead, ahead.Epoch+1, plainUnpackMachine(ahead.Saved).Machine))
	return true
}

func TestP50GuestsBeginAnewFromWhatWasSaved(t *testing.T) {
	t.Parallel()
	rng := rand.New(rand.NewSource(2453))
	machines := guestMachines(rng, 60)
	begun, stayed := 0, 0
	for n := range 700 {
		w := anyWorld(rng, machines)
		mayFall := slices.DeleteFunc(slices.Clone(w.Guests), func(g impl.WorldGuest) bool {
			return !g.Up || g.Epoch >= 1<<40 || nodeOf(w.Cluster, vmOf(w.Cluster, g.Name).Node).Fenced
		})
		if len(mayFall) == 0 || w.Cluster.Time > 1<<40-100 {
			continue
		}
		g := mayFall[rng.Intn(len(mayFall))]
		node := vmOf(w.Cluster, g.Name).Node
		what := fmt.Sprintf("world %d, %s", n, g.Name)
		w = impl.RunWorld(w, []impl.WorldOp{woRun(rng.Int63n(9)), woSave(g.Name)}).World
		saved := worldGuest(w, g.Name)
		checkText(t, what+": what was saved", saved.Saved, plainPackMachine(saved.Machine))
		later := []impl.WorldOp{woRun(rng.Int63n(9)), woIn(g.Name, 1, 2)}
		if rng.Intn(2) == 0 {
			// The fence comes by an op of its own, and the tick behind it, with whatever but ticks between.
			later = append(later, woCluster(clFence(node)), woRun(3), woCluster(clBeat(node)))
		} else {
			w.Cluster.Nodes[slices.IndexFunc(w.Cluster.Nodes, func(n impl.Node) bool { return n.Name == node })].Beat = 0
			w.Cluster.Time = max(w.Cluster.Time, 31)
		}
		run := checkWorldRun(t, what, w, append(later, woCluster(clTick(w.Cluster.Time+rng.Int63n(2)))))
		checkNumber(t, what+": WorldFault", impl.WorldFault(run.World), impl.OK)
		if checkAnew(t, what, saved, run.World) {
			begun++
		} else {
			stayed++
		}
		if t.Failed() {
			return
		}
	}
	if begun < 100 || stayed < 50 {
		t.Errorf("%d were begun anew, %d had no node", begun, stayed)
	}
}

// roomyWorld has something behind the end of each list, which a call could write over.
func roomyWorld(w impl.World) impl.World {
	w.Guests = append(w.Guests, impl.WorldGuest{Name: "room"}, impl.WorldGuest{Name: "room"})[:len(w.Guests)]
	w.Cluster.Vms = append(w.Cluster.Vms, impl.Vm{Name: "room"}, impl.Vm{Name: "room"})[:len(w.Cluster.Vms)]
	for at := range w.Guests {
		m := &w.Guests[at].Machine
		m.Ins = append(m.Ins, impl.PortValue{Port: 77, Value: 77})[:len(m.Ins)]
		m.Outs = append(m.Outs, impl.PortValue{Port: 77, Value: 77})[:len(m.Outs)]
	}
	return w
}

func checkWorldRoom(t *testing.T, what string, w impl.World) {
	t.Helper()
	for _, g := range w.Guests[len(w.Guests) : len(w.Guests)+2] {
		checkText(t, what+": behind Guests", g.Name, "room")
	}
	for _, v := range w.Cluster.Vms[len(w.Cluster.Vms) : len(w.Cluster.Vms)+2] {
		checkText(t, what+": behind Vms", v.Name, "room")
	}
	for _, g := range w.Guests {
		for _, list := range [][]impl.PortValue{g.Machine.Ins, g.Machine.Outs} {
			checkEqual(t, what+": behind ports", list[:len(list)+1][len(list)], impl.PortValue{Port: 77, Value: 77})
		}
	}
}

func TestAnswersOfRunWorldAreNewMemory(t *testing.T) {
	t.Parallel()
	rng := rand.New(rand.NewSource(2454))
	machines := guestMachines(rng, 40)
	for n := range 120 {
		w := roomyWorld(anyWorld(rng, machines))
		before := copyWorld(w)
		ops := randomWorldOps(rng, w, rng.Intn(30))
		what := fmt.Sprintf("run %d", n)
		run := checkWorldRun(t, what, w, ops)
		checkNewMemory(t, what, run, w, ops)
		for _, out := range run.Outs {
			clear(out.Vms)
			_ = append(out.Vms, "spoilt")
		}
		checkNumber(t, what+": the world of an answer with Outs spoilt", impl.WorldFault(run.World), impl.OK)
		spoilCluster(run.World.Cluster)
		for _, m := range run.World.Images {
			spoilLists(m)
		}
		for _, g := range run.World.Guests {
			spoilMachine(g.Machine)
		}
		clear(run.World.Guests)
		checkWorld(t, what+": what was handed in", w, before)
		checkWorldRoom(t, what, w)
	}
}

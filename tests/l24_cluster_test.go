package tests

import (
	"fmt"
	"math/rand"
	"slices"
	"testing"

	"loop.example/g00038/impl"
)

// settled is the sample without the guest that any op of the cluster begins anew.
func settled() impl.World {
	return changedWorld(sampleWorld(), func(w *impl.World) {
		w.Guests = slices.DeleteFunc(w.Guests, func(g impl.WorldGuest) bool { return g.Name == "late" })
	})
}

func toldAs(out impl.ClusterOut) impl.WorldOut {
	return impl.WorldOut{Code: out.Code, Node: out.Node, Vms: out.Vms}
}

func clusterOps(ops ...impl.ClusterOp) []impl.WorldOp {
	var list []impl.WorldOp
	for _, op := range ops {
		list = append(list, woCluster(op))
	}
	return list
}

// afterOps is a world behind ops of its cluster, none of which has a code.
func afterOps(t *testing.T, what string, w impl.World, ops ...impl.ClusterOp) impl.World {
	t.Helper()
	got := checkWorldRun(t, what, w, clusterOps(ops...))
	for at, out := range got.Outs {
		checkNumber(t, fmt.Sprintf("%s: op %d", what, at), out.Code, impl.OK)
	}
	checkNumber(t, what+": WorldFault", impl.WorldFault(got.World), impl.OK)
	return got.World
}

// checkOneGuest holds one guest to what it is here, and answers the world.
func checkOneGuest(t *testing.T, what string, w impl.World, want impl.WorldGuest) impl.World {
	t.Helper()
	checkGuests(t, what, []impl.WorldGuest{worldGuest(w, want.Name)}, []impl.WorldGuest{want})
	return w
}

func changedGuest(g impl.WorldGuest, change func(g *impl.WorldGuest)) impl.WorldGuest {
	change(&g)
	return g
}

// downGuest is a guest that is not up, all else as it was.
func downGuest(g impl.WorldGuest) impl.WorldGuest {
	g.Up, g.Machine = false, impl.Machine{}
	return g
}

// anewGuest is a guest that was begun anew.
func anewGuest(g impl.WorldGuest, epoch int64, m impl.Machine) impl.WorldGuest {
	g.Up, g.Epoch, g.Machine = true, epoch, m
	return g
}

func TestWoClusterTellsWhatRunClusterTells(t *testing.T) {
	v := impl.Vm{Name: "new", Cpu: 1, Mem: 5}
	ops := []impl.ClusterOp{
		{}, {Kind: 9}, clPlace(v), clPlace(impl.Vm{Name: "busy", Cpu: 1, Mem: 1}), clPlace(impl.Vm{Name: "new"}), clPlace(impl.Vm{Name: "new", Cpu: 64, Mem: 1}), clPlace(impl.Vm{Name: "new", Cpu: 1, Mem: 1, Zone: 8}), clPlace(impl.Vm{Name: "new", Cpu: 1, Mem: 990}),
		clStop("busy"), clStop("down"), clStop("zz"), clMove("busy", "n2"), clMove("busy", "n3"), clMove("busy", "zz"), clMove("busy", "n1"), clMove("busy", "n4"), clMove("down", "n1"), clMove("zz", "n1"),
		clDrain("n1"), clDrain("n4"), clDrain("zz"), clBeat("n1"), clBeat("n5"), clBeat("zz"), clTick(100), clTick(99), clTick(111), clTick(121), clTick(200), clTick(1<<40 + 1),
		clFence("n1"), clFence("n5"), clFence("zz"), clReady("n4"), clReady("n5"), clReady("n1"), clReady("zz"),
	}
	codes := map[int64]bool{}
	for _, op := range ops {
		what := fmt.Sprintf("%+v", op)
		want := impl.RunCluster(sampleWorld().Cluster, []impl.ClusterOp{op})
		got := checkWorldRun(t, what, sampleWorld(), []impl.WorldOp{woCluster(op)})
		checkWorldOuts(t, what, got.Outs, []impl.WorldOut{toldAs(want.Outs[0])})
		checkCluster(t, what, got.World.Cluster, want.Cluster)
		checkNumber(t, what, impl.WorldFault(got.World), impl.OK)
		codes[want.Outs[0].Code] = true
	}
	checkEqual(t, "codes", len(codes), 6)
	whole := impl.RunCluster(sampleWorld().Cluster, ops)
	got := checkWorldRun(t, "all of them", sampleWorld(), clusterOps(ops...))
	var outs []impl.WorldOut
	for _, out := range whole.Outs {
		outs = append(outs, toldAs(out))
	}
	checkWorldOuts(t, "all of them", got.Outs, outs)
	checkCluster(t, "all of them", got.World.Cluster, whole.Cluster)
}

func TestWoClusterTakesTheGuestsOfMachinesThatAreGone(t *testing.T) {
	w := settled()
	for _, name := range []string{"busy", "down", "lost", "saved", "tied"} {
		behind := afterOps(t, name, w, clStop(name))
		others := slices.DeleteFunc(slices.Clone(w.Guests), func(g impl.WorldGuest) bool { return g.Name == name })
		checkGuests(t, name+" is gone, the others stay", behind.Guests, others)
	}
	for _, name := range []string{"alone", "idle", "late"} {
		checkGuests(t, name+" had no guest", afterOps(t, name, w, clStop(name)).Guests, w.Guests)
	}
	none := afterOps(t, "all are gone", w, clStop("busy"), clStop("tied"), clStop("lost"), clStop("down"), clStop("saved"))
	checkEqual(t, "all are gone", len(none.Guests), 0)
}

// Under a name that was stopped and placed again there is no guest until one is booted, and nothing that was saved.
func TestAMachineThatIsStoppedAndPlacedAgain(t *testing.T) {
	again := impl.Vm{Name: "saved", Cpu: 1, Mem: 10}
	ops := []impl.WorldOp{woCluster(clStop("saved")), woCluster(clPlace(again)), woSave("saved"), woIn("saved", 1, 1), woRun(1), woBoot("saved", "hello"), woRun(2)}
	w := checkWorldOps(t, "again", settled(), ops, impl.WorldOut{Node: "n2"}, impl.WorldOut{Node: "n1"}, impl.WorldOut{Code: impl.ErrNone}, impl.WorldOut{Code: impl.ErrNone}, steps(2), impl.WorldOut{}, steps(6))
	checkOneGuest(t, "again", w, impl.WorldGuest{Name: "saved", Disk: "hello", Up: true, Epoch: 1, Machine: machineFrom("hello", 2)})
	checkBooted(t, "nothing is saved", checkStart(t, "again", w, "saved"), plainBoot(bootOf(plainHello("hi")), worldBoard()))
	bare := afterOps(t, "without a boot", settled(), clStop("saved"), clPlace(again), clTick(100))
	checkEqual(t, "without a boot: guests", len(bare.Guests), 4)
}

// A machine that was only moved goes on as if nothing had been.
func TestAMachineThatIsMovedGoesOn(t *testing.T) {
	w := settled()
	for what, ops := range map[string][]impl.ClusterOp{
		"move": {clMove("busy", "n3")}, "there and back": {clMove("busy", "n3"), clMove("busy", "n1")}, "drain": {clDrain("n1")}, "from one that is Closed": {clDrain("n2"), clReady("n4"), clMove("busy", "n4")},
		"from one that is Fenced": {clMove("tied", "n1")}, "beats": {clBeat("n1"), clBeat("n2"), clReady("n4")}, "a place": {clPlace(impl.Vm{Name: "new", Cpu: 1, Mem: 1})},
	} {
		behind := afterOps(t, what, w, ops...)
		checkGuests(t, what, behind.Guests, w.Guests)
		checkNumber(t, what+": Epoch", vmOf(behind.Cluster, "busy").Epoch, 3)
	}
	got := checkWorldOps(t, "steps, move, steps", w, []impl.WorldOp{woRun(4), woCluster(clMove("busy", "n2")), woRun(4), woCluster(clDrain("n2")), woRun(4)}, steps(11), impl.WorldOut{Node: "n2"}, steps(8), impl.WorldOut{Node: "n2", Vms: []string{"busy", "lost", "saved"}}, steps(8))
	checkMachine(t, "steps, move, steps", worldGuest(got, "busy").Machine, machineFrom("loop", 19))
}

func TestAFenceStopsGuestsUntilTheNextTick(t *testing.T) {
	w := settled()
	fenced := afterOps(t, "fence", w, clFence("n2"))
	saved, busy := worldGuest(w, "saved"), worldGuest(w, "busy")
	checkOneGuest(t, "fence", fenced, downGuest(saved))
	checkOneGuest(t, "fence", fenced, busy)
	checkRefusedWorldOp(t, "no boot on no node", fenced, woBoot("saved", "hello"), impl.ErrState)
	checkRefusedWorldOp(t, "no save", fenced, woSave("saved"), impl.ErrState)
	checkRefusedWorldOp(t, "nothing comes in", fenced, woIn("saved", 1, 1), impl.ErrState)
	checkWorldOps(t, "no steps", fenced, []impl.WorldOp{woRun(2)}, steps(4))
	for what, op := range map[string]impl.ClusterOp{"a beat": clBeat("n1"), "a code": clBeat("zz"), "no kind": {}, "another fence": clFence("n3"), "the same again": clFence("n2"), "ready": clReady("n2"), "a tick that is refused": clTick(99)} {
		behind := impl.RunWorld(fenced, []impl.WorldOp{woCluster(op)})
		checkOneGuest(t, what+" begins nobody", behind.World, downGuest(saved))
	}
	ticked := afterOps(t, "tick", fenced, clTick(100))
	checkOneGuest(t, "tick", ticked, anewGuest(saved, 5, machineFrom("front", 20)))
	checkOneGuest(t, "tick: one that was not fenced", ticked, busy)
}

// A tick that fences and finds another node begins a guest anew at once, from what was saved or from its disk.
func TestATickThatFencesBeginsAnew(t *testing.T) {
	w := settled()
	// n2 and n3 are late at 121; n1, at which somebody may be, is not.
	behind := checkWorldOps(t, "tick", w, clusterOps(clTick(121)), impl.WorldOut{Vms: []string{"late", "lost", "saved"}})
	checkOneGuest(t, "saved", behind, anewGuest(worldGuest(w, "saved"), 5, machineFrom("front", 20)))
	checkOneGuest(t, "lost, which does not boot", behind, changedGuest(worldGuest(w, "lost"), func(g *impl.WorldGuest) { g.Epoch = 5 }))
	checkOneGuest(t, "busy", behind, worldGuest(w, "busy"))
	all := checkWorldOps(t, "n1 alone is late", w, clusterOps(clBeat("n2"), clBeat("n3"), clTick(130), clBeat("n2"), clBeat("n3"), clTick(131)),
		impl.WorldOut{Node: "n2"}, impl.WorldOut{Node: "n3"}, impl.WorldOut{Vms: []string{"down"}}, impl.WorldOut{Node: "n2"}, impl.WorldOut{Node: "n3"}, impl.WorldOut{Vms: []string{"alone", "busy"}})
	checkOneGuest(t, "busy from its disk", all, anewGuest(worldGuest(w, "busy"), 4, machineFrom("loop", 0)))
	checkOneGuest(t, "down, which had been on no node", all, anewGuest(worldGuest(w, "down"), 3, machineFrom("loop", 30)))
}

// Where there is no node for it a guest stays down, as long as it takes.
func TestAFenceWithoutAnotherNode(t *testing.T) {
	w := changedWorld(settled(), func(w *impl.World) { w.Cluster.Nodes[0].Closed, w.Cluster.Nodes[2].Closed = true, true })
	saved := worldGuest(w, "saved")
	w = afterOps(t, "no node", w, clFence("n2"), clTick(100), clTick(110), clBeat("n1"))
	checkOneGuest(t, "no node", w, downGuest(saved))
	checkNumber(t, "no node: Epoch of the machine", vmOf(w.Cluster, "saved").Epoch, 4)
	w = afterOps(t, "ready again", w, clReady("n2"))
	checkOneGuest(t, "ready again, but no tick", w, downGuest(saved))
	w = afterOps(t, "tick", w, clTick(111))
	checkOneGuest(t, "tick", w, anewGuest(saved, 5, machineFrom("front", 20)))
	checkText(t, "on the same node", vmOf(w.Cluster, "saved").Node, "n2")
}

// What was saved stays saved: a guest may begin anew from it several times.
func TestGuestsThatBeginAnewAgain(t *testing.T) {
	w := settled()
	saved := worldGuest(w, "saved")
	for n := range int64(4) {
		w = afterOps(t, "again", w, clFence(vmOf(w.Cluster, "saved").Node), clTick(100))
		checkOneGuest(t, fmt.Sprintf("time %d", n), w, anewGuest(saved, 5+n, machineFrom("front", 20)))
		w = checkWorldOps(t, "ready", w, []impl.WorldOp{woRun(0), woCluster(clReady([]string{"n2", "n1", "n2", "n1"}[n]))}, steps(0), impl.WorldOut{Node: []string{"n2", "n1", "n2", "n1"}[n]})
	}
	w = checkWorldOps(t, "a later save", w, []impl.WorldOp{woRun(6), woSave("saved")}, steps(6+6+6+3), impl.WorldOut{})
	w = afterOps(t, "a later save", w, clFence(vmOf(w.Cluster, "saved").Node), clTick(100))
	checkMachine(t, "from the later save", worldGuest(w, "saved").Machine, machineFrom("front", 26))
}

// Where a guest begins anew with a code it is down with the new Epoch, and is begun no more until it is booted.
func TestGuestsThatDoNotBeginAnew(t *testing.T) {
	for disk, code := range diskCodes() {
		if code == impl.OK || !plainName(disk) {
			continue
		}
		w := changedWorld(settled(), func(w *impl.World) { guestIn(w, "busy").Disk = disk })
		busy := worldGuest(w, "busy")
		w = checkOneGuest(t, disk, afterOps(t, disk, w, clFence("n1"), clTick(100)), changedGuest(downGuest(busy), func(g *impl.WorldGuest) { g.Epoch = 4 }))
		checkNumber(t, disk, checkStart(t, disk, w, "busy").Code, code)
		checkWorldOps(t, disk+": booted", w, []impl.WorldOp{woCluster(clBeat("n2")), woBoot("busy", "loop"), woRun(1)}, impl.WorldOut{Node: "n2"}, impl.WorldOut{}, steps(3+1))
	}
}

// A guest that is down, whose machine is on a node with another Epoch, begins at the cluster's next op, whatever that is.
func TestAGuestOfAnOlderEpochBeginsAtTheNextOp(t *testing.T) {
	late := worldGuest(sampleWorld(), "late")
	begun := anewGuest(late, 5, machineFrom("hello", 0))
	for what, op := range map[string]impl.ClusterOp{"a beat": clBeat("n1"), "a code": clBeat("zz"), "no kind": {Kind: 77}, "a fence": clFence("n2"), "a move": clMove("late", "n2"), "a tick": clTick(100)} {
		got := checkWorldRun(t, what, sampleWorld(), []impl.WorldOp{woCluster(op)})
		checkOneGuest(t, what, got.World, begun)
	}
	fenced := afterOps(t, "its own fence", sampleWorld(), clFence("n3"))
	checkOneGuest(t, "its own fence", fenced, late)
	checkOneGuest(t, "a tick behind that", afterOps(t, "a tick", fenced, clTick(100)), anewGuest(late, 6, machineFrom("hello", 0)))
	for what, op := range map[string]impl.WorldOp{"run": woRun(3), "save": woSave("busy"), "in": woIn("busy", 1, 1), "boot": woBoot("alone", "hello"), "no kind": {}} {
		checkOneGuest(t, what+" begins nobody", impl.RunWorld(sampleWorld(), []impl.WorldOp{op}).World, late)
	}
	older := changedWorld(sampleWorld(), func(w *impl.World) { guestIn(w, "down").Epoch = 0 })
	checkOneGuest(t, "on no node", afterOps(t, "on no node", older, clBeat("n1")), worldGuest(older, "down"))
	zero := changedWorld(sampleWorld(), func(w *impl.World) { guestIn(w, "late").Epoch = 0 })
	checkOneGuest(t, "Epoch 0", afterOps(t, "Epoch 0", zero, clBeat("n1")), begun)
}

// At the last Epoch a guest is not told apart from one that was only moved.
func TestGuestsOfTheLastEpoch(t *testing.T) {
	at := func(epoch int64) impl.World {
		return changedWorld(settled(), func(w *impl.World) {
			vmIn(w, "saved").Epoch, guestIn(w, "saved").Epoch = epoch, epoch
			vmIn(w, "down").Epoch, guestIn(w, "down").Epoch = epoch, epoch
		})
	}
	last := int64(1) << 40
	ahead := at(last - 1)
	for _, ops := range [][]impl.ClusterOp{{clFence("n2"), clTick(100)}, {clTick(121)}} {
		w := afterOps(t, "the last but one", ahead, ops...)
		checkOneGuest(t, "the last but one", w, anewGuest(worldGuest(ahead, "saved"), last, machineFrom("front", 20)))
	}
	w := at(last)
	saved := worldGuest(w, "saved")
	checkOneGuest(t, "fenced, and a tick", afterOps(t, "fence, tick", w, clFence("n2"), clTick(100)), downGuest(saved))
	checkOneGuest(t, "fenced by the tick", afterOps(t, "tick", w, clTick(121)), saved)
	placed := afterOps(t, "from no node", w, clTick(100))
	checkText(t, "from no node: on one now", vmOf(placed.Cluster, "down").Node, "n3")
	checkOneGuest(t, "from no node", placed, worldGuest(w, "down"))
	checkOneGuest(t, "one below", afterOps(t, "one below", ahead, clTick(100)), anewGuest(worldGuest(ahead, "down"), last, machineFrom("loop", 30)))
}

// Several guests of one node each begin anew on a node of their own, from what is theirs.
func TestSeveralGuestsOfAFencedNode(t *testing.T) {
	rng := rand.New(rand.NewSource(2404))
	c := impl.Cluster{Tenants: []impl.Tenant{{Cpu: 100, Mem: 100}}, Over: 100}
	for n := range 8 {
		c.Nodes = append(c.Nodes, impl.Node{Name: fmt.Sprintf("n%d", n), Cpu: 8, Mem: int64(8 + n), Zone: 1})
	}
	w := impl.World{Cluster: c, Images: bootImages()}
	var ops []impl.WorldOp
	for n := range 8 {
		name := fmt.Sprintf("g%d", n)
		ops = append(ops, woCluster(clPlace(impl.Vm{Name: name, Cpu: 1, Mem: 1})), woCluster(clMove(name, "n7")), woBoot(name, "loop"), woIn(name, 5, int64(n)), woRun(rng.Int63n(30)))
		if n%2 == 0 {
			ops = append(ops, woSave(name), woRun(3))
		}
	}
	ahead := impl.RunWorld(w, ops).World
	behind := afterOps(t, "fenced", ahead, clFence("n7"), clTick(0))
	for n, g := range ahead.Guests {
		want := machineFrom("loop", 0)
		if n%2 == 0 {
			want = plainUnpackMachine(g.Saved).Machine
		}
		checkOneGuest(t, "fenced", behind, anewGuest(g, 2, want))
	}
}

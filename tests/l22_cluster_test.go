package tests

import (
	"fmt"
	"math"
	"math/rand"
	"slices"
	"strings"
	"testing"

	"loop.example/g00038/impl"
)

func TestRunClusterRefusesWhatIsTooLongOrWrong(t *testing.T) {
	wrong := changedCluster(sampleCluster(), func(c *impl.Cluster) { c.Over = 99 })
	for what, c := range map[string]impl.Cluster{"right": sampleCluster(), "wrong": wrong, "none": {}} {
		for _, count := range []int{0, 1, 999, 1000, 1001, 5000} {
			got := checkClusterRun(t, fmt.Sprintf("%s, %d ops", what, count), c, make([]impl.ClusterOp, count))
			if count > 1000 {
				checkNumber(t, what, got.Code, impl.ErrSize)
			}
			if got.Code != impl.OK {
				checkCluster(t, what+": with a code", got.Cluster, impl.Cluster{})
				checkEqual(t, what+": Outs with a code", len(got.Outs), 0)
			}
		}
	}
	none := impl.RunCluster(sampleCluster(), nil)
	checkNumber(t, "no op", none.Code, impl.OK)
	checkCluster(t, "no op", none.Cluster, sampleCluster())
	many := slices.Repeat([]impl.ClusterOp{clBeat("a1")}, 1000)
	checkEqual(t, "1000 ops", len(checkClusterRun(t, "1000 ops", sampleCluster(), many).Outs), 1000)
}

func TestClusterOpsOfNoKind(t *testing.T) {
	for _, kind := range []int64{0, 9, 10, -1, 1000, math.MaxInt64, math.MinInt64} {
		op := impl.ClusterOp{Kind: kind, Name: "db1", Node: "b1", Time: 200, Vm: smallVm()}
		checkRefusedOp(t, fmt.Sprintf("kind %d", kind), sampleCluster(), op, impl.ErrForm)
	}
}

// What an op does not speak of counts for nothing.
func TestClusterOpsLookAtTheirOwnFieldsAlone(t *testing.T) {
	for _, op := range []impl.ClusterOp{clPlace(smallVm()), clStop("db1"), clMove("db1", "b1"), clDrain("a1"), clBeat("a1"), clTick(105), clFence("a1"), clReady("a1")} {
		want := impl.RunCluster(sampleCluster(), []impl.ClusterOp{op})
		noise := op
		if op.Kind != impl.ClPlace {
			noise.Vm = impl.Vm{Name: "Not a name", Tenant: -7, Cpu: -1, Node: "zz"}
		}
		if op.Kind != impl.ClStop && op.Kind != impl.ClMove {
			noise.Name = "web"
		}
		if op.Node == "" {
			noise.Node = "b2"
		}
		if op.Kind != impl.ClTick {
			noise.Time = -5
		}
		got := checkClusterRun(t, fmt.Sprintf("kind %d", op.Kind), sampleCluster(), []impl.ClusterOp{noise})
		checkClusterOuts(t, fmt.Sprintf("kind %d", op.Kind), got.Outs, want.Outs)
		checkCluster(t, fmt.Sprintf("kind %d", op.Kind), got.Cluster, want.Cluster)
	}
}

func vmNames(c impl.Cluster) []string {
	var names []string
	for _, v := range c.Vms {
		names = append(names, v.Name)
	}
	return names
}

func TestClPlacePutsAMachineByItsName(t *testing.T) {
	for name, at := range map[string]int{"a": 0, "0": 0, "-": 0, "db": 0, "db1-": 1, "db10": 1, "db11": 1, "e": 2, "old0": 4, "p": 4, "web0": 6, "zz": 6, strings.Repeat("z", 20): 6} {
		v := changedVm(func(v *impl.Vm) { v.Name, v.Node, v.Epoch = name, "c1", 77 })
		c := checkClusterOps(t, name, sampleCluster(), []impl.ClusterOp{clPlace(v)}, atNode("a1"))
		want := slices.Insert(sampleCluster().Vms, at, impl.Vm{Name: name, Cpu: 1, Mem: 1, Node: "a1", Epoch: 1})
		checkCluster(t, name, c, changedCluster(sampleCluster(), func(c *impl.Cluster) { c.Vms = want }))
	}
}

func TestClPlaceKeepsAllFields(t *testing.T) {
	v := impl.Vm{Name: "new", Tenant: 1, Cpu: 12, Mem: 60, Zone: 2, Apart: 9, Node: "Not a name", Epoch: -3}
	c := checkClusterOps(t, "all fields", sampleCluster(), []impl.ClusterOp{clPlace(v)}, atNode("b1"))
	checkEqual(t, "all fields", vmOf(c, "new"), impl.Vm{Name: "new", Tenant: 1, Cpu: 12, Mem: 60, Zone: 2, Apart: 9, Node: "b1", Epoch: 1})
}

// What was placed counts for what is placed behind it.
func TestClPlaceOneAfterAnother(t *testing.T) {
	c := impl.Cluster{Nodes: []impl.Node{{Name: "p", Cpu: 4, Mem: 10, Zone: 1}, {Name: "q", Cpu: 4, Mem: 8, Zone: 2}}, Tenants: []impl.Tenant{{Cpu: 100, Mem: 100}}, Over: 200}
	var ops []impl.ClusterOp
	for _, v := range []impl.Vm{{Name: "a", Mem: 2}, {Name: "b", Mem: 1}, {Name: "c", Mem: 2}, {Name: "d", Mem: 4}, {Name: "e", Mem: 5}, {Name: "f", Mem: 1}, {Name: "g", Mem: 5}, {Name: "h", Mem: 1}} {
		v.Cpu = 1
		ops = append(ops, clPlace(v))
	}
	// p has 10, 8, 7, 7, 7, 2, and q has 8, 8, 8, 6, 2, 2 left, of which the more, and of as much p, is taken.
	outs := []impl.ClusterOut{atNode("p"), atNode("p"), atNode("q"), atNode("p"), atNode("q"), atNode("p"), {Code: impl.ErrNone}, atNode("p")}
	checkClusterOps(t, "one after another", c, ops, outs...)
}

func TestClPlaceOfMaxVms(t *testing.T) {
	for count, code := range map[int64]int64{28: impl.OK, 29: impl.OK, 30: impl.ErrCount} {
		c := changedCluster(sampleCluster(), func(c *impl.Cluster) { c.Vms = manyVms(count) })
		got := checkClusterRun(t, fmt.Sprintf("%d machines", count), c, []impl.ClusterOp{clPlace(smallVm())})
		checkNumber(t, fmt.Sprintf("%d machines", count), got.Outs[0].Code, code)
	}
	c := changedCluster(sampleCluster(), func(c *impl.Cluster) { c.Vms = manyVms(29) })
	second := changedVm(func(v *impl.Vm) { v.Name = "second" })
	ops := []impl.ClusterOp{clPlace(smallVm()), clPlace(second), clStop("v0000"), clPlace(second)}
	c = checkClusterOps(t, "up to all", c, ops, atNode("a1"), impl.ClusterOut{Code: impl.ErrCount}, impl.ClusterOut{}, atNode("b1"))
	checkEqual(t, "up to all", len(c.Vms), 30)
}

// The sample's tenant 2 has 1 Cpu and 1 Mem already, on no node, of 10 and 50.
func TestClPlaceAtATenantsBounds(t *testing.T) {
	for _, s := range []struct{ cpu, mem, code int64 }{
		{9, 49, impl.OK}, {8, 48, impl.OK}, {10, 49, impl.ErrRight}, {9, 50, impl.ErrRight}, {10, 50, impl.ErrRight}, {64, 1, impl.ErrRight}, {1, 1000, impl.ErrRight}, {64, 1000, impl.ErrRight},
	} {
		v := changedVm(func(v *impl.Vm) { v.Tenant, v.Cpu, v.Mem = 2, s.cpu, s.mem })
		what := fmt.Sprintf("%+v", s)
		if s.code != impl.OK {
			checkRefusedOp(t, what, sampleCluster(), clPlace(v), s.code)
			continue
		}
		c := checkClusterOps(t, what, sampleCluster(), []impl.ClusterOp{clPlace(v)}, atNode("a1"))
		next := changedVm(func(v *impl.Vm) { v.Name, v.Tenant = "next", 2 })
		if s.cpu == 9 {
			checkRefusedOp(t, what+": one more", c, clPlace(next), impl.ErrRight)
			checkClusterOps(t, what+": one more behind a stop", c, []impl.ClusterOp{clStop("idle"), clPlace(next)}, atNode(""), atNode("b1"))
		}
	}
	none := changedCluster(sampleCluster(), func(c *impl.Cluster) { c.Tenants = append(c.Tenants, impl.Tenant{}) })
	checkRefusedOp(t, "a tenant with nothing", none, clPlace(changedVm(func(v *impl.Vm) { v.Tenant = 3 })), impl.ErrRight)
	checkClusterOps(t, "another tenant", none, []impl.ClusterOp{clPlace(smallVm())}, atNode("a1"))
}

// clusterWrong puts one thing wrong with a cluster or an op.
type clusterWrong struct {
	code int64
	put  func(c *impl.Cluster, op *impl.ClusterOp)
}

// checkOpOrder puts each choice of faults at once, the last one first: the first one in the document's order is told.
func checkOpOrder(t *testing.T, what string, base impl.Cluster, op impl.ClusterOp, faults []clusterWrong) {
	t.Helper()
	for chosen := range 1 << len(faults) {
		c, asked, code := copyCluster(base), op, int64(impl.OK)
		for at := len(faults) - 1; at >= 0; at-- {
			if chosen>>at&1 == 1 {
				faults[at].put(&c, &asked)
				code = faults[at].code
			}
		}
		what := fmt.Sprintf("%s, faults %b", what, chosen)
		got := checkClusterRun(t, what, c, []impl.ClusterOp{asked})
		if got.Code != impl.OK || len(got.Outs) != 1 {
			t.Fatalf("%s: code %d, outs %+v", what, got.Code, got.Outs)
		}
		checkNumber(t, what, got.Outs[0].Code, code)
		if code != impl.OK {
			checkCluster(t, what+": behind what was refused", got.Cluster, c)
		}
	}
}

func TestWhichRefusalOfClPlaceComesFirst(t *testing.T) {
	full := func(c *impl.Cluster) { c.Vms = append(c.Vms, manyVms(30-int64(len(c.Vms)))...) }
	base := changedCluster(sampleCluster(), func(c *impl.Cluster) {
		for at := range c.Vms {
			c.Vms[at].Name = "a" + c.Vms[at].Name
		}
	})
	for _, noMachine := range []func(v *impl.Vm){
		func(v *impl.Vm) { v.Name = "" }, func(v *impl.Vm) { v.Tenant = 3 }, func(v *impl.Vm) { v.Tenant = -1 }, func(v *impl.Vm) { v.Cpu = 65 }, func(v *impl.Vm) { v.Mem = 0 }, func(v *impl.Vm) { v.Zone = 21 }, func(v *impl.Vm) { v.Apart = -1 },
	} {
		checkOpOrder(t, "place", base, clPlace(smallVm()), []clusterWrong{
			{impl.ErrForm, func(_ *impl.Cluster, op *impl.ClusterOp) { noMachine(&op.Vm) }},
			{impl.ErrConflict, func(_ *impl.Cluster, op *impl.ClusterOp) { op.Vm.Name = "adb2" }},
			{impl.ErrCount, func(c *impl.Cluster, _ *impl.ClusterOp) { full(c) }},
			{impl.ErrRight, func(_ *impl.Cluster, op *impl.ClusterOp) { op.Vm.Mem = 161 }},
			{impl.ErrNone, func(_ *impl.Cluster, op *impl.ClusterOp) { op.Vm.Zone = 3 }},
		})
	}
}

func TestClPlaceRefusesEachThatHasNoNode(t *testing.T) {
	for what, change := range map[string]func(v *impl.Vm){
		"Zone of a node that is Fenced": func(v *impl.Vm) { v.Zone = 3 }, "Zone of no node": func(v *impl.Vm) { v.Zone = 20 }, "Mem": func(v *impl.Vm) { v.Mem = 81 },
		"Cpu": func(v *impl.Vm) { v.Cpu = 13 }, "Apart": func(v *impl.Vm) { v.Zone, v.Apart = 1, 1 },
	} {
		checkRefusedOp(t, what, sampleCluster(), clPlace(changedVm(change)), impl.ErrNone)
	}
	bare := impl.Cluster{Tenants: []impl.Tenant{{Cpu: 9, Mem: 9}}, Over: 100}
	checkRefusedOp(t, "no node at all", bare, clPlace(smallVm()), impl.ErrNone)
	for _, name := range vmNames(sampleCluster()) {
		v := changedVm(func(v *impl.Vm) { v.Name, v.Tenant = name, 1 })
		checkRefusedOp(t, "there is "+name, sampleCluster(), clPlace(v), impl.ErrConflict)
	}
}

func TestClStop(t *testing.T) {
	for at, v := range sampleCluster().Vms {
		c := checkClusterOps(t, v.Name, sampleCluster(), []impl.ClusterOp{clStop(v.Name), clStop(v.Name)}, atNode(v.Node), impl.ClusterOut{Code: impl.ErrNone})
		want := changedCluster(sampleCluster(), func(c *impl.Cluster) { c.Vms = slices.Delete(c.Vms, at, at+1) })
		checkCluster(t, v.Name+": all others", c, want)
	}
	for _, name := range []string{"", "a1", "db", "db11", "DB1", strings.Repeat("x", 70000)} {
		checkRefusedOp(t, fmt.Sprintf("%.20q", name), sampleCluster(), clStop(name), impl.ErrNone)
	}
	// What was stopped leaves its room and its share to others.
	big := changedVm(func(v *impl.Vm) { v.Mem, v.Cpu, v.Zone = 100, 12, 1 })
	checkClusterOps(t, "room", sampleCluster(), []impl.ClusterOp{clPlace(big), clStop("db1"), clPlace(big)}, impl.ClusterOut{Code: impl.ErrNone}, atNode("a1"), atNode("a1"))
	again := checkClusterOps(t, "placed anew", sampleCluster(), []impl.ClusterOp{clStop("db2"), clPlace(impl.Vm{Name: "db2", Cpu: 1, Mem: 1, Epoch: 9})}, atNode("a2"), atNode("a1"))
	checkNumber(t, "Epoch of one that is placed anew", vmOf(again, "db2").Epoch, 1)
}

func TestClMove(t *testing.T) {
	for _, s := range []struct{ name, node string }{{"db1", "b1"}, {"db2", "b1"}, {"stuck", "a1"}, {"stuck", "b1"}, {"old", "b1"}} {
		c := checkClusterOps(t, s.name, sampleCluster(), []impl.ClusterOp{clMove(s.name, s.node)}, atNode(s.node))
		want := changedCluster(sampleCluster(), func(c *impl.Cluster) {
			for at := range c.Vms {
				if c.Vms[at].Name == s.name {
					c.Vms[at].Node = s.node
				}
			}
		})
		checkCluster(t, s.name+" is there, and its Epoch as it was", c, want)
	}
	c := checkClusterOps(t, "there and back", sampleCluster(), []impl.ClusterOp{clMove("db1", "b1"), clMove("db1", "b1"), clMove("db1", "a1"), clMove("db1", "a1")}, atNode("b1"), impl.ClusterOut{Code: impl.ErrState}, atNode("a1"), impl.ClusterOut{Code: impl.ErrState})
	checkCluster(t, "there and back", c, sampleCluster())
	// Who moves leaves room behind and takes it where it comes.
	big := changedVm(func(v *impl.Vm) { v.Mem, v.Cpu = 100, 12 })
	checkClusterOps(t, "room", sampleCluster(), []impl.ClusterOp{clMove("db1", "b1"), clPlace(big), clMove("db1", "a1")}, atNode("b1"), atNode("a1"), impl.ClusterOut{Code: impl.ErrSize})
}

func TestClMoveRefuses(t *testing.T) {
	for _, s := range []struct {
		name, node string
		code       int64
	}{
		{"zz", "a1", impl.ErrNone}, {"", "a1", impl.ErrNone}, {"a1", "a2", impl.ErrNone}, {"zz", "zz", impl.ErrNone},
		{"idle", "a1", impl.ErrState}, {"idle", "", impl.ErrState}, {"idle", "zz", impl.ErrState}, {"idle", "c1", impl.ErrState},
		{"db1", "a1", impl.ErrState}, {"old", "b2", impl.ErrState}, {"stuck", "c1", impl.ErrState},
		{"db1", "zz", impl.ErrNone}, {"db1", "", impl.ErrNone}, {"db1", "b2", impl.ErrState}, {"db1", "c1", impl.ErrState},
		{"web", "a1", impl.ErrRight}, {"old", "a1", impl.ErrRight}, {"db1", "a2", impl.ErrConflict}, {"db2", "a1", impl.ErrConflict},
	} {
		checkRefusedOp(t, fmt.Sprintf("%+v", s), sampleCluster(), clMove(s.name, s.node), s.code)
	}
	heavy := changedCluster(sampleCluster(), func(c *impl.Cluster) { c.Vms[0].Mem = 71 })
	checkRefusedOp(t, "Mem", heavy, clMove("db1", "b1"), impl.ErrSize)
	heavy.Vms[0].Mem, heavy.Vms[0].Cpu = 70, 12
	checkClusterOps(t, "all Mem and Cpu", heavy, []impl.ClusterOp{clMove("db1", "b1")}, atNode("b1"))
	heavy.Vms[5].Cpu = 4
	checkRefusedOp(t, "Cpu", heavy, clMove("db1", "b1"), impl.ErrLimit)
	long := strings.Repeat("x", 65536)
	checkRefusedOp(t, "the longest Node that may be", sampleCluster(), clMove("db1", long), impl.ErrNone)
	checkRefusedOp(t, "a Node that is too long, as MayHold tells", sampleCluster(), clMove("db1", long+"x"), impl.ErrSize)
	checkRefusedOp(t, "a Node that is too long, of a machine on none", sampleCluster(), clMove("idle", long+"x"), impl.ErrState)
}

func TestWhichRefusalOfClMoveComesFirst(t *testing.T) {
	base := changedCluster(sampleCluster(), func(c *impl.Cluster) {
		c.Vms[1].Node, c.Vms[1].Tenant = "b1", 0
		c.Vms[0].Apart = 2
	})
	checkOpOrder(t, "move", base, clMove("db1", "b1"), []clusterWrong{
		{impl.ErrNone, func(_ *impl.Cluster, op *impl.ClusterOp) { op.Name = "nobody" }},
		{impl.ErrState, func(c *impl.Cluster, _ *impl.ClusterOp) { c.Vms[0].Node = "" }},
		{impl.ErrState, func(c *impl.Cluster, op *impl.ClusterOp) { op.Node = c.Vms[0].Node }},
		{impl.ErrNone, func(_ *impl.Cluster, op *impl.ClusterOp) { op.Node = "zz" }},
		{impl.ErrState, func(c *impl.Cluster, _ *impl.ClusterOp) { c.Nodes[2].Closed = true }},
		{impl.ErrState, func(c *impl.Cluster, _ *impl.ClusterOp) { c.Nodes[2].Fenced = true }},
		{impl.ErrRight, func(c *impl.Cluster, _ *impl.ClusterOp) { c.Vms[0].Zone = 1 }},
		{impl.ErrConflict, func(c *impl.Cluster, _ *impl.ClusterOp) { c.Vms[0].Apart = 1 }},
		{impl.ErrSize, func(c *impl.Cluster, _ *impl.ClusterOp) { c.Vms[0].Mem = 100 }},
		{impl.ErrLimit, func(c *impl.Cluster, _ *impl.ClusterOp) { c.Vms[0].Cpu = 12 }},
	})
}

func TestNodesThatThereAreNot(t *testing.T) {
	for _, node := range []string{"", "zz", "a", "a11", "db1", "A1", strings.Repeat("x", 65537)} {
		for _, kind := range []int64{impl.ClDrain, impl.ClBeat, impl.ClFence, impl.ClReady} {
			checkRefusedOp(t, fmt.Sprintf("kind %d of %.20q", kind, node), sampleCluster(), impl.ClusterOp{Kind: kind, Node: node}, impl.ErrNone)
		}
	}
}

// Each op on a node of each state, with a machine on it and without.
func TestNodeOpsByState(t *testing.T) {
	for state := range 4 {
		for _, node := range []string{"a1", "empty"} {
			c := changedCluster(sampleCluster(), func(c *impl.Cluster) {
				c.Nodes = append(c.Nodes, impl.Node{Name: "empty", Cpu: 1, Mem: 1, Zone: 1, Beat: 5})
				for _, at := range []int{0, 5} {
					c.Nodes[at].Closed, c.Nodes[at].Fenced = state&1 == 1, state&2 == 2
				}
			})
			open, fenced := state == 0, state&2 == 2
			for kind, right := range map[int64]bool{impl.ClDrain: open, impl.ClBeat: !fenced, impl.ClFence: !fenced, impl.ClReady: !open && node == "empty"} {
				what := fmt.Sprintf("kind %d of %s in state %d", kind, node, state)
				op := impl.ClusterOp{Kind: kind, Node: node}
				if !right {
					checkRefusedOp(t, what, c, op, impl.ErrState)
					continue
				}
				out := atNode(node)
				if node == "a1" && kind != impl.ClBeat {
					out.Vms = []string{"db1"}
				}
				behind := checkClusterOps(t, what, c, []impl.ClusterOp{op}, out)
				checkNodeBehind(t, what, nodeOf(c, node), kind, nodeOf(behind, node))
			}
		}
	}
}

func checkNodeBehind(t *testing.T, what string, n impl.Node, kind int64, got impl.Node) {
	t.Helper()
	switch kind {
	case impl.ClDrain:
		n.Closed = true
	case impl.ClFence:
		n.Fenced = true
	case impl.ClBeat:
		n.Beat = 100
	case impl.ClReady:
		n.Closed, n.Fenced, n.Beat = false, false, 100
	}
	checkEqual(t, what, got, n)
}

func TestClReadyLetsANodeHoldAgain(t *testing.T) {
	v := changedVm(func(v *impl.Vm) { v.Zone = 3 })
	ops := []impl.ClusterOp{clReady("c1"), clMove("stuck", "a1"), clPlace(v), clReady("c1"), clPlace(v), clReady("c1")}
	c := checkClusterOps(t, "c1", sampleCluster(), ops, impl.ClusterOut{Code: impl.ErrState}, atNode("a1"), impl.ClusterOut{Code: impl.ErrNone}, atNode("c1"), atNode("c1"), impl.ClusterOut{Code: impl.ErrState})
	checkNumber(t, "Beat of c1", nodeOf(c, "c1").Beat, 100)
	ops = []impl.ClusterOp{clReady("b2"), clStop("old"), clReady("b2"), clTick(130), clTick(131)}
	c = checkClusterOps(t, "b2", sampleCluster(), ops, impl.ClusterOut{Code: impl.ErrState}, atNode("b2"), atNode("b2"), impl.ClusterOut{Vms: []string{"db1", "idle", "web"}}, impl.ClusterOut{})
	checkEqual(t, "b2 is fenced", nodeOf(c, "b2").Fenced, true)
}

func TestClFence(t *testing.T) {
	for _, s := range []struct {
		node string
		vms  []string
	}{{"a1", []string{"db1", "idle"}}, {"a2", []string{"db2"}}, {"b1", []string{"stuck", "web"}}, {"b2", []string{"old"}}} {
		c := changedCluster(sampleCluster(), func(c *impl.Cluster) { c.Vms[2].Node, c.Vms[4].Node = "a1", "b1" })
		behind := checkClusterOps(t, s.node, c, []impl.ClusterOp{clFence(s.node), clFence(s.node)}, atNode(s.node, s.vms...), impl.ClusterOut{Code: impl.ErrState})
		want := changedCluster(c, func(c *impl.Cluster) {
			for at := range c.Nodes {
				c.Nodes[at].Fenced = c.Nodes[at].Fenced || c.Nodes[at].Name == s.node
			}
			for at, v := range c.Vms {
				if slices.Contains(s.vms, v.Name) {
					c.Vms[at].Node = ""
				}
			}
		})
		checkCluster(t, s.node+": what is Fenced, and who is on no node", behind, want)
	}
	checkRefusedOp(t, "one that is Fenced, with a machine on it", sampleCluster(), clFence("c1"), impl.ErrState)
	again := checkClusterOps(t, "made ready", sampleCluster(), []impl.ClusterOp{clFence("a1"), clReady("a1"), clFence("a1")}, atNode("a1", "db1"), atNode("a1"), atNode("a1"))
	checkText(t, "made ready: db1 waits for a tick", vmOf(again, "db1").Node, "")
}

func TestClBeatKeepsALease(t *testing.T) {
	// At 121 a1 is fenced, at 130 b2, at 131 b1, whose machines have no node then.
	ops := []impl.ClusterOp{clBeat("b1"), clTick(121), clBeat("a2"), clTick(130), clTick(131)}
	c := checkClusterOps(t, "leases", sampleCluster(), ops, atNode("b1"), impl.ClusterOut{Vms: []string{"db1", "idle"}}, atNode("a2"), impl.ClusterOut{Vms: []string{"old"}}, impl.ClusterOut{})
	var fenced []string
	for _, n := range c.Nodes {
		if n.Fenced {
			fenced = append(fenced, n.Name)
		}
	}
	checkNames(t, "Fenced", fenced, []string{"a1", "b1", "b2", "c1"})
	checkRefusedOp(t, "a Beat of one that is Fenced", c, clBeat("b1"), impl.ErrState)
}

func TestAnswersOfRunClusterAreNewMemory(t *testing.T) {
	rng := rand.New(rand.NewSource(2203))
	for n := range 400 {
		c := anyCluster(rng)
		c.Nodes = append(c.Nodes, impl.Node{Name: "room"})[:len(c.Nodes)]
		c.Vms = append(c.Vms, impl.Vm{Name: "room"}, impl.Vm{Name: "room"})[:len(c.Vms)]
		c.Tenants = append(c.Tenants, impl.Tenant{Bill: 99})[:len(c.Tenants)]
		before := copyCluster(c)
		var ops []impl.ClusterOp
		for range rng.Intn(30) {
			ops = append(ops, randomClusterOp(rng, c))
		}
		run := checkClusterRun(t, fmt.Sprintf("run %d", n), c, ops)
		for _, out := range run.Outs {
			for at := range out.Vms {
				out.Vms[at] = "spoilt"
			}
			_ = append(out.Vms, "spoilt")
		}
		checkNumber(t, "the cluster of an answer with Outs spoilt", impl.ClusterFault(run.Cluster), impl.OK)
		spoilCluster(run.Cluster)
		checkCluster(t, "what was handed in", c, before)
		checkText(t, "behind Nodes", c.Nodes[:len(c.Nodes)+1][len(c.Nodes)].Name, "room")
		for _, v := range c.Vms[len(c.Vms) : len(c.Vms)+2] {
			checkText(t, "behind Vms", v.Name, "room")
		}
		checkNumber(t, "behind Tenants", c.Tenants[:len(c.Tenants)+1][len(c.Tenants)].Bill, 99)
	}
}

// spoilCluster writes into all lists of a cluster, and behind their ends.
func spoilCluster(c impl.Cluster) {
	clear(c.Nodes)
	clear(c.Vms)
	clear(c.Tenants)
	_ = append(c.Nodes, impl.Node{Name: "spoilt"})
	_ = append(c.Vms, impl.Vm{Name: "spoilt"}, impl.Vm{Name: "spoilt"})
	_ = append(c.Tenants, impl.Tenant{Bill: 1})
}

// Two lists of one answer share nothing: a write into one Vms is seen in no other.
func TestListsOfAnAnswerOfRunClusterAreApart(t *testing.T) {
	run := impl.RunCluster(sampleCluster(), []impl.ClusterOp{clFence("a1"), clTick(101), clReady("a1"), clDrain("b1"), clFence("a2")})
	checkNames(t, "fenced", run.Outs[0].Vms, []string{"db1"})
	checkNames(t, "begun", run.Outs[1].Vms, []string{"db1", "idle"})
	run.Outs[0].Vms[0] = "spoilt"
	run.Outs[1].Vms = append(run.Outs[1].Vms[:1], "spoilt")
	checkNames(t, "fenced at last", run.Outs[4].Vms, []string{"db2", "idle"})
	checkNames(t, "machines", vmNames(run.Cluster), vmNames(sampleCluster()))
}

func TestRunClusterKeepsNothingForTheNextCall(t *testing.T) {
	ops := []impl.ClusterOp{clPlace(smallVm()), clDrain("a1"), clTick(140), clReady("a1"), clStop("web")}
	first := impl.RunCluster(sampleCluster(), ops)
	impl.RunCluster(first.Cluster, append(slices.Clone(ops), clTick(5000)))
	impl.MayHold(sampleCluster(), "a1", smallVm())
	again := impl.RunCluster(sampleCluster(), ops)
	checkClusterOuts(t, "once more", again.Outs, first.Outs)
	checkCluster(t, "once more", again.Cluster, first.Cluster)
}

// A run in two parts comes to what it comes to in one.
func TestRunClusterInTwoParts(t *testing.T) {
	rng := rand.New(rand.NewSource(2204))
	for n := range 500 {
		c := anyCluster(rng)
		var ops []impl.ClusterOp
		for range rng.Intn(30) {
			ops = append(ops, randomClusterOp(rng, c))
		}
		cut := rng.Intn(len(ops) + 1)
		whole := impl.RunCluster(c, ops)
		ahead := impl.RunCluster(c, ops[:cut])
		behind := impl.RunCluster(ahead.Cluster, ops[cut:])
		checkClusterOuts(t, fmt.Sprintf("run %d", n), append(ahead.Outs, behind.Outs...), whole.Outs)
		checkCluster(t, fmt.Sprintf("run %d", n), behind.Cluster, whole.Cluster)
	}
}

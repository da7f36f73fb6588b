package tests

import (
	"fmt"
	"testing"

	"loop.example/g00038/impl"
)

// begun is what ClTick tells.
func begun(vms ...string) impl.ClusterOut { return impl.ClusterOut{Vms: vms} }

// drainable has a node d with three machines, which go to different nodes when it is drained.
func drainable() impl.Cluster {
	return impl.Cluster{
		Nodes: []impl.Node{{Name: "c", Cpu: 4, Mem: 20, Zone: 1}, {Name: "d", Cpu: 10, Mem: 100, Zone: 1}, {Name: "e", Cpu: 4, Mem: 30, Zone: 2}, {Name: "f", Cpu: 4, Mem: 10, Zone: 1}},
		Vms: []impl.Vm{
			{Name: "p", Cpu: 1, Mem: 15, Node: "d", Epoch: 4},
			{Name: "q", Cpu: 1, Mem: 5, Node: "c", Epoch: 2},
			{Name: "r", Cpu: 1, Mem: 10, Zone: 1, Node: "d", Epoch: 5},
			{Name: "s", Cpu: 1, Mem: 15, Node: "d", Epoch: 6},
		},
		Tenants: []impl.Tenant{{Cpu: 100, Mem: 1000}},
		Over:    100,
	}
}

func nodesOfVms(c impl.Cluster) string {
	text := ""
	for _, v := range c.Vms {
		text += fmt.Sprintf("%s:%s:%d ", v.Name, v.Node, v.Epoch)
	}
	return text
}

func TestClDrainMovesEachToItsBestNode(t *testing.T) {
	c := checkClusterOps(t, "several", drainable(), []impl.ClusterOp{clDrain("d")}, atNode("d", "p", "r", "s"))
	checkText(t, "several", nodesOfVms(c), "p:e:4 q:c:2 r:c:5 s:e:6 ")
	checkEqual(t, "Closed", nodeOf(c, "d").Closed, true)
	checkEqual(t, "Fenced", nodeOf(c, "d").Fenced, false)
	empty := checkClusterOps(t, "no machine", drainable(), []impl.ClusterOp{clDrain("f"), clDrain("f")}, atNode("f"), impl.ClusterOut{Code: impl.ErrState})
	checkCluster(t, "no machine", empty, changedCluster(drainable(), func(c *impl.Cluster) { c.Nodes[3].Closed = true }))
	both := checkClusterOps(t, "one behind the other", drainable(), []impl.ClusterOp{clDrain("c"), clDrain("f"), clDrain("d")}, atNode("c", "q"), atNode("f"), impl.ClusterOut{Code: impl.ErrLimit})
	checkText(t, "one behind the other", nodesOfVms(both), "p:d:4 q:d:2 r:d:5 s:d:6 ")
}

// Who has no node may be the first, one in the middle or the last of several: nothing happens then.
func TestP46ClDrainDoesAllOrNothing(t *testing.T) {
	for what, change := range map[string]func(c *impl.Cluster){
		"the first":             func(c *impl.Cluster) { c.Vms[0].Mem = 31 },
		"one in the middle":     func(c *impl.Cluster) { c.Vms[2].Mem = 16 },
		"the last":              func(c *impl.Cluster) { c.Vms[3].Mem = 16 },
		"the last, by its Zone": func(c *impl.Cluster) { c.Vms[3].Zone = 1 },
		"the last, by its Cpu":  func(c *impl.Cluster) { c.Vms[3].Cpu = 4 },
		"the last, by Apart": func(c *impl.Cluster) {
			c.Vms[1].Apart, c.Vms[2].Mem, c.Vms[3].Mem, c.Vms[3].Zone, c.Vms[3].Apart = 3, 3, 11, 1, 3
		},
		"all":                            func(c *impl.Cluster) { c.Nodes[0].Closed, c.Nodes[2].Closed, c.Nodes[3].Fenced = true, true, true },
		"two that had room each, not so": func(c *impl.Cluster) { c.Nodes[2].Mem = 29 },
	} {
		c := changedCluster(drainable(), change)
		checkRefusedOp(t, what, c, clDrain("d"), impl.ErrLimit)
		// The counts of nodes are as they were, too: what may be placed behind it is what may be placed without it.
		for _, mem := range []int64{1, 5, 10, 15, 29, 30, 40, 60} {
			v := impl.Vm{Name: "x", Cpu: 1, Mem: mem}
			without := impl.RunCluster(c, []impl.ClusterOp{clPlace(v), clFence("d"), clTick(1)})
			with := checkClusterRun(t, what, c, []impl.ClusterOp{clDrain("d"), clPlace(v), clFence("d"), clTick(1)})
			checkClusterOuts(t, what, with.Outs[1:], without.Outs)
			checkCluster(t, what, with.Cluster, without.Cluster)
		}
	}
	alone := impl.Cluster{Nodes: []impl.Node{{Name: "d", Cpu: 1, Mem: 1, Zone: 1}}, Vms: []impl.Vm{{Name: "a", Cpu: 1, Mem: 1, Node: "d"}}, Tenants: []impl.Tenant{{Cpu: 1, Mem: 1}}, Over: 100}
	checkRefusedOp(t, "the only node", alone, clDrain("d"), impl.ErrLimit)
	alone.Vms[0].Node = ""
	checkClusterOps(t, "the only node, with nobody there", alone, []impl.ClusterOp{clDrain("d")}, atNode("d"))
}

// A drain that did not come about is done again once there is room.
func TestP46ClDrainAgain(t *testing.T) {
	tight := changedCluster(drainable(), func(c *impl.Cluster) { c.Vms[3].Mem = 16 })
	ops := []impl.ClusterOp{clDrain("d"), clStop("q"), clDrain("d"), clStop("r"), clDrain("d"), clDrain("d"), clReady("d"), clReady("d")}
	c := checkClusterOps(t, "again", tight, ops, impl.ClusterOut{Code: impl.ErrLimit}, atNode("c"), impl.ClusterOut{Code: impl.ErrLimit}, atNode("d"), atNode("d", "p", "s"), impl.ClusterOut{Code: impl.ErrState}, atNode("d"), impl.ClusterOut{Code: impl.ErrState})
	checkText(t, "again", nodesOfVms(c), "p:e:4 s:c:6 ")
}

func TestClTickRefusesTimes(t *testing.T) {
	for time, right := range withEnds(map[int64]bool{-1: false, 0: false, 99: false, 100: true, 101: true, 1<<40 - 1: true, 1 << 40: true, 1<<40 + 1: false}) {
		what := fmt.Sprintf("Time %d", time)
		if !right {
			checkRefusedOp(t, what, sampleCluster(), clTick(time), impl.ErrForm)
			continue
		}
		got := checkClusterRun(t, what, sampleCluster(), []impl.ClusterOp{clTick(time)})
		checkNumber(t, what, got.Outs[0].Code, impl.OK)
		checkNumber(t, what, got.Cluster.Time, time)
		checkText(t, what+": tells no Node", got.Outs[0].Node, "")
	}
	last := changedCluster(sampleCluster(), func(c *impl.Cluster) { c.Time, c.Vms = 1<<40, nil })
	checkClusterOps(t, "the last Time", last, []impl.ClusterOp{clTick(1 << 40), clTick(1<<40 + 1), clTick(1<<40 - 1)}, clusterCodes(0, impl.ErrForm, impl.ErrForm)...)
	checkClusterOps(t, "backwards", drainable(), []impl.ClusterOp{clTick(-1), clTick(3), clTick(2), clTick(3)}, clusterCodes(impl.ErrForm, 0, impl.ErrForm, 0)...)
}

func bills(c impl.Cluster) []int64 {
	var all []int64
	for _, k := range c.Tenants {
		all = append(all, k.Bill)
	}
	return all
}

// The sample's tenants have 4 Cpu, 8 (with one on a node that is Closed and one on a node that is Fenced), and none on a node.
func TestClTickBills(t *testing.T) {
	for time, want := range map[int64][]int64{100: {5, 0, 1 << 60}, 101: {9, 8, 1 << 60}, 110: {45, 80, 1 << 60}, 1 << 40: {5 + 4*(1<<40-100), 8 * (1<<40 - 100), 1 << 60}} {
		got := checkClusterRun(t, fmt.Sprintf("Time %d", time), sampleCluster(), []impl.ClusterOp{clTick(time)})
		checkNumbers(t, fmt.Sprintf("Time %d", time), bills(got.Cluster), want)
	}
	// idle is on no node until the first tick, and is billed from then on.
	idle := changedCluster(sampleCluster(), func(c *impl.Cluster) { c.Tenants[2].Bill = 0 })
	c := checkClusterOps(t, "idle", idle, []impl.ClusterOp{clTick(107), clTick(108), clTick(108)}, begun("idle"), begun(), begun())
	checkNumbers(t, "idle", bills(c), []int64{5 + 4*8, 8 * 8, 1})
	// One whose node is fenced in a tick was on it up to then.
	c = checkClusterOps(t, "fenced", idle, []impl.ClusterOp{clTick(111), clTick(112)}, begun("idle"), begun())
	checkNumbers(t, "fenced", bills(c), []int64{5 + 4*12, 8*11 + 5, 1})
}

func TestClTickBillsUpTo(t *testing.T) {
	for _, s := range []struct{ bill, time, want int64 }{
		{1<<60 - 9, 101, 1<<60 - 5}, {1<<60 - 5, 101, 1<<60 - 1}, {1<<60 - 4, 101, 1 << 60}, {1<<60 - 3, 101, 1 << 60}, {1 << 60, 101, 1 << 60}, {1 << 60, 1 << 40, 1 << 60}, {1<<60 - 4, 100, 1<<60 - 4}, {0, 1 << 40, 4 * (1<<40 - 100)},
	} {
		c := changedCluster(sampleCluster(), func(c *impl.Cluster) { c.Tenants[0].Bill = s.bill })
		got := checkClusterRun(t, fmt.Sprintf("%+v", s), c, []impl.ClusterOp{clTick(s.time)})
		checkNumber(t, fmt.Sprintf("%+v", s), got.Cluster.Tenants[0].Bill, s.want)
	}
	most := impl.Cluster{Tenants: []impl.Tenant{{Cpu: 10000, Mem: 10000, Bill: 1<<60 - 1}}, Over: 400}
	for _, name := range numbered("x", 12) {
		most.Nodes = append(most.Nodes, impl.Node{Name: name, Cpu: 64, Mem: 1000, Zone: 1})
	}
	for at, name := range numbered("y", 30) {
		most.Vms = append(most.Vms, impl.Vm{Name: name, Cpu: 64, Mem: 1, Node: most.Nodes[at%12].Name})
	}
	checkNumbers(t, "as much as may be", bills(checkClusterRun(t, "as much as may be", most, []impl.ClusterOp{clTick(1 << 40)}).Cluster), []int64{1 << 60})
	most.Tenants[0].Bill = 0
	checkNumbers(t, "all time, all Cpu", bills(checkClusterRun(t, "all time, all Cpu", most, []impl.ClusterOp{clTick(1 << 40)}).Cluster), []int64{30 * 64 << 40})
}

func fencedNames(c impl.Cluster) []string {
	var names []string
	for _, n := range c.Nodes {
		if n.Fenced {
			names = append(names, n.Name)
		}
	}
	return names
}

// The sample's Beats are 90, 100, 80, 95 (of a node that is Closed), and 0 of one that is Fenced.
func TestClTickFencesWhoseLeaseIsOver(t *testing.T) {
	for time, want := range map[int64][]string{
		100: {"c1"}, 109: {"c1"}, 110: {"c1"}, 111: {"b1", "c1"}, 120: {"b1", "c1"}, 121: {"a1", "b1", "c1"}, 125: {"a1", "b1", "c1"}, 126: {"a1", "b1", "b2", "c1"}, 130: {"a1", "b1", "b2", "c1"}, 131: {"a1", "a2", "b1", "b2", "c1"}, 1 << 40: {"a1", "a2", "b1", "b2", "c1"},
	} {
		got := checkClusterRun(t, fmt.Sprintf("Time %d", time), sampleCluster(), []impl.ClusterOp{clTick(time)})
		checkNames(t, fmt.Sprintf("Time %d", time), fencedNames(got.Cluster), want)
		checkEqual(t, "b2 is Closed still", nodeOf(got.Cluster, "b2").Closed, true)
		checkText(t, "stuck is where it was", vmOf(got.Cluster, "stuck").Node, "c1")
	}
}

// No machine goes to a node that is fenced in the same tick, be it ahead of its own one or behind.
func TestClTickFencesAllAheadOfBeginning(t *testing.T) {
	for _, late := range [][2]int{{0, 1}, {1, 0}, {0, 2}, {2, 0}, {1, 2}, {2, 1}} {
		c := impl.Cluster{
			Nodes:   []impl.Node{{Name: "x", Cpu: 4, Mem: 50, Zone: 1, Beat: 40}, {Name: "y", Cpu: 4, Mem: 50, Zone: 1, Beat: 40}, {Name: "z", Cpu: 4, Mem: 50, Zone: 1, Beat: 40}},
			Vms:     []impl.Vm{{Name: "p", Cpu: 1, Mem: 1}, {Name: "q", Cpu: 1, Mem: 2}, {Name: "r", Cpu: 1, Mem: 3}},
			Tenants: []impl.Tenant{{Cpu: 10, Mem: 10}},
			Over:    100,
			Time:    40,
		}
		for at := range c.Vms {
			c.Vms[at].Node = c.Nodes[at].Name
		}
		c.Nodes[late[0]].Beat, c.Nodes[late[1]].Beat = 10, 0
		stays := 3 - late[0] - late[1]
		first, second := min(late[0], late[1]), max(late[0], late[1])
		behind := checkClusterOps(t, fmt.Sprint(late), c, []impl.ClusterOp{clTick(41)}, begun(c.Vms[first].Name, c.Vms[second].Name))
		for at, v := range behind.Vms {
			checkText(t, fmt.Sprint(late, v.Name), v.Node, c.Nodes[stays].Name)
			checkEqual(t, fmt.Sprint(late, v.Name, " Epoch"), v.Epoch == 1, at != stays)
		}
	}
}

func TestClTickBeginsWhoHasANode(t *testing.T) {
	c := changedCluster(drainable(), func(c *impl.Cluster) {
		for at := range c.Vms {
			c.Vms[at].Node = ""
		}
		c.Nodes[1].Closed = true
	})
	// p goes to e, q to c, r (Zone 1) to c, s to e; none is left for the next ones.
	behind := checkClusterOps(t, "all", c, []impl.ClusterOp{clTick(0), clTick(0)}, begun("p", "q", "r", "s"), begun())
	checkText(t, "all", nodesOfVms(behind), "p:e:5 q:c:3 r:c:6 s:e:7 ")
	tight := changedCluster(c, func(c *impl.Cluster) { c.Vms[0].Mem, c.Vms[2].Mem, c.Vms[3].Mem = 30, 16, 17 })
	behind = checkClusterOps(t, "some", tight, []impl.ClusterOp{clTick(1), clStop("q"), clTick(1), clReady("d"), clTick(2)}, begun("p", "q"), atNode("c"), begun("r"), atNode("d"), begun("s"))
	checkText(t, "some", nodesOfVms(behind), "p:e:5 r:c:6 s:d:7 ")
	none := changedCluster(c, func(c *impl.Cluster) { c.Nodes = nil })
	behind = checkClusterOps(t, "none", none, []impl.ClusterOp{clTick(1)}, begun())
	checkText(t, "none", nodesOfVms(behind), "p::4 q::2 r::5 s::6 ")
}

func TestClTickCountsEpochsUpTo(t *testing.T) {
	for epoch, want := range map[int64]int64{0: 1, 1: 2, 1<<40 - 2: 1<<40 - 1, 1<<40 - 1: 1 << 40, 1 << 40: 1 << 40} {
		c := changedCluster(sampleCluster(), func(c *impl.Cluster) { c.Vms[2].Epoch = epoch })
		behind := checkClusterOps(t, fmt.Sprintf("Epoch %d", epoch), c, []impl.ClusterOp{clTick(100)}, begun("idle"))
		checkEqual(t, fmt.Sprintf("Epoch %d", epoch), vmOf(behind, "idle"), impl.Vm{Name: "idle", Tenant: 2, Cpu: 1, Mem: 1, Node: "a1", Epoch: want})
	}
}

// A fence lets a machine begin elsewhere at the next tick, not ahead of it, even where the node is made ready meanwhile.
func TestP45BeginsBehindTheFence(t *testing.T) {
	ops := []impl.ClusterOp{clFence("a2"), clMove("db2", "b1"), clBeat("a1"), clDrain("b1"), clReady("a2"), clTick(100)}
	c := checkClusterOps(t, "fenced", sampleCluster(), ops[:1], atNode("a2", "db2"))
	checkEqual(t, "on no node", vmOf(c, "db2"), impl.Vm{Name: "db2", Cpu: 2, Mem: 20, Apart: 1, Epoch: 3})
	c = checkClusterOps(t, "further on", c, ops[1:], impl.ClusterOut{Code: impl.ErrState}, atNode("a1"), impl.ClusterOut{Code: impl.ErrLimit}, atNode("a2"), begun("db2", "idle"))
	checkEqual(t, "begun anew", vmOf(c, "db2"), impl.Vm{Name: "db2", Cpu: 2, Mem: 20, Apart: 1, Node: "a2", Epoch: 4})
}

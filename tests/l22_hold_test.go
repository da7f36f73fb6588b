package tests

import (
	"fmt"
	"math"
	"math/rand"
	"strings"
	"testing"

	"loop.example/g00038/impl"
)

// smallVm may be held by each node of the sample that is open.
func smallVm() impl.Vm { return impl.Vm{Name: "small", Cpu: 1, Mem: 1} }

func changedVm(change func(v *impl.Vm)) impl.Vm {
	v := smallVm()
	change(&v)
	return v
}

func TestMayHoldOfNodes(t *testing.T) {
	for node, code := range map[string]int64{
		"a1": impl.OK, "a2": impl.OK, "b1": impl.OK, "b2": impl.ErrState, "c1": impl.ErrState,
		"": impl.ErrNone, "zz": impl.ErrNone, "a": impl.ErrNone, "a11": impl.ErrNone, "A1": impl.ErrNone, "db1": impl.ErrNone, "a1\x00": impl.ErrNone,
		strings.Repeat("a", 65535): impl.ErrNone, strings.Repeat("a", 65536): impl.ErrNone, strings.Repeat("a", 65537): impl.ErrSize, strings.Repeat("a", 200000): impl.ErrSize,
	} {
		checkMayHold(t, fmt.Sprintf("%.20q", node), sampleCluster(), node, smallVm(), code)
	}
	for state, code := range map[[2]bool]int64{{false, false}: impl.OK, {true, false}: impl.ErrState, {false, true}: impl.ErrState, {true, true}: impl.ErrState} {
		c := changedCluster(sampleCluster(), func(c *impl.Cluster) { c.Nodes[0].Fenced, c.Nodes[0].Closed = state[0], state[1] })
		checkMayHold(t, fmt.Sprintf("Fenced, Closed %v", state), c, "a1", smallVm(), code)
	}
	bare := impl.Cluster{Tenants: []impl.Tenant{{}}, Over: 100}
	checkMayHold(t, "no node", bare, "a1", smallVm(), impl.ErrNone)
}

// checkVmNumbers puts numbers into a field: what is no machine has ErrForm, whatever is true of the node.
func checkVmNumbers(t *testing.T, name string, bounds map[int64]bool, field func(v *impl.Vm) *int64) {
	t.Helper()
	c := changedCluster(sampleCluster(), func(c *impl.Cluster) { c.Nodes[0].Cpu, c.Nodes[0].Mem, c.Over = 64, 1000, 400 })
	for n, right := range bounds {
		v := smallVm()
		*field(&v) = n
		what := fmt.Sprintf("%s %d", name, n)
		code := plainMayHold(c, "a1", v)
		checkEqual(t, what+": is one", code != impl.ErrForm, right)
		for _, node := range []string{"a1", "b2", "zz"} {
			checkMayHold(t, what+" at "+node, c, node, v, plainMayHold(c, node, v))
		}
		if !right {
			checkNumber(t, what, impl.MayHold(c, "a1", v), impl.ErrForm)
			checkText(t, what, impl.BestNode(c, v), "")
			checkRefusedOp(t, what, c, clPlace(v), impl.ErrForm)
		}
	}
}

func TestMayHoldOfWhatIsNoMachine(t *testing.T) {
	checkVmNumbers(t, "Cpu", withEnds(map[int64]bool{-1: false, 0: false, 1: true, 2: true, 63: true, 64: true, 65: false}), func(v *impl.Vm) *int64 { return &v.Cpu })
	checkVmNumbers(t, "Mem", withEnds(map[int64]bool{-1: false, 0: false, 1: true, 2: true, 999: true, 1000: true, 1001: false}), func(v *impl.Vm) *int64 { return &v.Mem })
	checkVmNumbers(t, "Zone", withEnds(map[int64]bool{-1: false, 0: true, 1: true, 2: true, 20: true, 21: false}), func(v *impl.Vm) *int64 { return &v.Zone })
	checkVmNumbers(t, "Apart", withEnds(map[int64]bool{-1: false, 0: true, 1: true, 20: true, 21: false}), func(v *impl.Vm) *int64 { return &v.Apart })
	checkVmNumbers(t, "Tenant", withEnds(map[int64]bool{-1: false, 0: true, 1: true, 2: true, 3: false, 7: false, 8: false}), func(v *impl.Vm) *int64 { return &v.Tenant })
	anything := map[int64]bool{math.MinInt64: true, -1: true, 0: true, 1: true, 1 << 40: true, 1<<40 + 1: true, math.MaxInt64: true}
	checkVmNumbers(t, "Epoch", anything, func(v *impl.Vm) *int64 { return &v.Epoch })
	for name, right := range clusterNames() {
		v := changedVm(func(v *impl.Vm) { v.Name = name })
		checkMayHold(t, fmt.Sprintf("Name %.30q", name), sampleCluster(), "a1", v, faultCode(right))
	}
}

// Where a machine says that it is counts for nothing, nor does what it says of its Epoch.
func TestMayHoldLooksAtNoNodeOfTheMachine(t *testing.T) {
	for _, node := range []string{"", "a1", "a2", "b2", "zz", "Not a name", strings.Repeat("x", 70000)} {
		v := changedVm(func(v *impl.Vm) { v.Node, v.Epoch = node, -5 })
		checkMayHold(t, fmt.Sprintf("Node %.20q", node), sampleCluster(), "a1", v, impl.OK)
		checkText(t, fmt.Sprintf("Node %.20q", node), impl.BestNode(sampleCluster(), v), "a1")
	}
}

func TestMayHoldOfZones(t *testing.T) {
	for zone, codes := range map[int64][3]int64{
		0: {impl.OK, impl.OK, impl.OK},
		1: {impl.OK, impl.OK, impl.ErrRight},
		2: {impl.ErrRight, impl.ErrRight, impl.OK},
		3: {impl.ErrRight, impl.ErrRight, impl.ErrRight},
	} {
		v := changedVm(func(v *impl.Vm) { v.Zone = zone })
		for at, node := range []string{"a1", "a2", "b1"} {
			checkMayHold(t, fmt.Sprintf("Zone %d at %s", zone, node), sampleCluster(), node, v, codes[at])
		}
	}
}

func TestMayHoldOfApart(t *testing.T) {
	for _, c := range []struct {
		tenant, apart int64
		node          string
		code          int64
	}{
		{0, 1, "a1", impl.ErrConflict}, {0, 1, "a2", impl.ErrConflict}, {0, 1, "b1", impl.OK}, {1, 1, "a1", impl.OK}, {1, 1, "b1", impl.ErrConflict},
		{0, 2, "a1", impl.OK}, {0, 0, "a1", impl.OK}, {2, 1, "b1", impl.OK}, {1, 2, "b1", impl.OK}, {0, 20, "a2", impl.OK},
	} {
		v := changedVm(func(v *impl.Vm) { v.Tenant, v.Apart = c.tenant, c.apart })
		checkMayHold(t, fmt.Sprintf("%+v", c), sampleCluster(), c.node, v, c.code)
	}
	plain := changedCluster(sampleCluster(), func(c *impl.Cluster) { c.Vms[0].Apart = 0 })
	checkMayHold(t, "both of no Apart", plain, "a1", smallVm(), impl.OK)
	checkMayHold(t, "beside one of no Apart", plain, "a1", changedVm(func(v *impl.Vm) { v.Apart = 1 }), impl.OK)
	second := changedCluster(sampleCluster(), func(c *impl.Cluster) { c.Vms[2].Node, c.Vms[2].Tenant, c.Vms[2].Apart = "a1", 0, 7 })
	checkMayHold(t, "the second one on the node", second, "a1", changedVm(func(v *impl.Vm) { v.Apart = 7 }), impl.ErrConflict)
}

// The sample's a1 has 80 Mem left of 100, and 10 Cpu of 8 times 150 in 100.
func TestMayHoldOfMemAndCpu(t *testing.T) {
	for _, c := range []struct{ cpu, mem, over, code int64 }{
		{1, 79, 150, impl.OK}, {1, 80, 150, impl.OK}, {1, 81, 150, impl.ErrSize}, {1, 1000, 150, impl.ErrSize},
		{9, 1, 150, impl.OK}, {10, 1, 150, impl.OK}, {11, 1, 150, impl.ErrLimit}, {64, 1, 150, impl.ErrLimit}, {11, 81, 150, impl.ErrSize},
		{6, 1, 100, impl.OK}, {7, 1, 100, impl.ErrLimit}, {6, 1, 112, impl.OK}, {7, 1, 112, impl.ErrLimit}, {7, 1, 113, impl.OK}, {8, 1, 113, impl.ErrLimit},
		{10, 1, 149, impl.ErrLimit}, {30, 1, 400, impl.OK}, {31, 1, 400, impl.ErrLimit}, {30, 1, 399, impl.ErrLimit}, {29, 1, 399, impl.OK},
	} {
		v := changedVm(func(v *impl.Vm) { v.Cpu, v.Mem = c.cpu, c.mem })
		base := changedCluster(sampleCluster(), func(s *impl.Cluster) { s.Over = c.over })
		checkMayHold(t, fmt.Sprintf("%+v", c), base, "a1", v, c.code)
	}
	full := changedCluster(sampleCluster(), func(c *impl.Cluster) { c.Vms[0].Mem = 100 })
	checkMayHold(t, "none left", full, "a1", smallVm(), impl.ErrSize)
	busy := changedCluster(sampleCluster(), func(c *impl.Cluster) { c.Vms[0].Cpu = 12 })
	checkMayHold(t, "no Cpu left", busy, "a1", smallVm(), impl.ErrLimit)
}

// What a tenant may have counts for nothing here.
func TestMayHoldLooksAtNoBounds(t *testing.T) {
	c := changedCluster(sampleCluster(), func(c *impl.Cluster) { c.Tenants[2].Cpu, c.Tenants[2].Mem = 1, 1 })
	checkMayHold(t, "above its bounds", c, "a1", changedVm(func(v *impl.Vm) { v.Tenant, v.Cpu, v.Mem = 2, 10, 80 }), impl.OK)
}

// A machine of the same name that is on the node already counts for nothing; one that is elsewhere does not either.
func TestMayHoldOfAMachineOfTheSameName(t *testing.T) {
	c := sampleCluster()
	for _, v := range c.Vms {
		v.Zone = 0
		checkMayHold(t, v.Name+" at a1", c, "a1", v, plainMayHold(c, "a1", v))
	}
	db1 := vmOf(c, "db1")
	checkMayHold(t, "on it already", c, "a1", db1, impl.OK)
	db1.Mem, db1.Cpu = 100, 12
	checkMayHold(t, "on it already, and it grows to all", c, "a1", db1, impl.OK)
	db1.Mem = 101
	checkMayHold(t, "on it already, and it grows above all Mem", c, "a1", db1, impl.ErrSize)
	db1.Mem, db1.Cpu = 1, 13
	checkMayHold(t, "on it already, and it grows above all Cpu", c, "a1", db1, impl.ErrLimit)
	other := impl.Vm{Name: "db1", Tenant: 1, Cpu: 12, Mem: 100, Apart: 1}
	checkMayHold(t, "another one of its name", c, "a1", other, impl.OK)
	db2 := vmOf(c, "db2")
	checkMayHold(t, "beside db1", c, "a1", db2, impl.ErrConflict)
	db2.Apart, db2.Mem = 0, 81
	checkMayHold(t, "what is elsewhere makes no room here", c, "a1", db2, impl.ErrSize)
	db2.Mem, db2.Cpu = 80, 10
	checkMayHold(t, "what is elsewhere takes no room here", c, "a1", db2, impl.OK)
}

// holdFault puts one thing wrong with what MayHold is handed.
type holdFault struct {
	code int64
	put  func(c *impl.Cluster, node *string, v *impl.Vm)
}

// checkHoldOrder puts each choice of faults at once, the last one first: the first one in the document's order is told.
func checkHoldOrder(t *testing.T, faults []holdFault) {
	t.Helper()
	for chosen := range 1 << len(faults) {
		c, node, v, code := sampleCluster(), "a1", smallVm(), int64(impl.OK)
		for at := len(faults) - 1; at >= 0; at-- {
			if chosen>>at&1 == 1 {
				faults[at].put(&c, &node, &v)
				code = faults[at].code
			}
		}
		checkMayHold(t, fmt.Sprintf("faults %b", chosen), c, node, v, code)
	}
}

func TestWhichRefusalOfMayHoldComesFirst(t *testing.T) {
	long := strings.Repeat("x", 65537)
	for _, noMachine := range []func(v *impl.Vm){
		func(v *impl.Vm) { v.Name = "" }, func(v *impl.Vm) { v.Tenant = 3 }, func(v *impl.Vm) { v.Cpu = 65 }, func(v *impl.Vm) { v.Mem = 1001 }, func(v *impl.Vm) { v.Zone = 21 }, func(v *impl.Vm) { v.Apart = 21 },
	} {
		checkHoldOrder(t, []holdFault{
			{impl.ErrSize, func(_ *impl.Cluster, node *string, _ *impl.Vm) { *node = long }},
			{impl.ErrForm, func(c *impl.Cluster, _ *string, _ *impl.Vm) { c.Nodes[4].Beat = 101 }},
			{impl.ErrForm, func(_ *impl.Cluster, _ *string, v *impl.Vm) { noMachine(v) }},
			{impl.ErrNone, func(_ *impl.Cluster, node *string, _ *impl.Vm) { *node = "zz" }},
			{impl.ErrState, func(c *impl.Cluster, _ *string, _ *impl.Vm) { c.Nodes[0].Fenced = true }},
			{impl.ErrState, func(c *impl.Cluster, _ *string, _ *impl.Vm) { c.Nodes[0].Closed = true }},
			{impl.ErrRight, func(_ *impl.Cluster, _ *string, v *impl.Vm) { v.Zone = 2 }},
			{impl.ErrConflict, func(_ *impl.Cluster, _ *string, v *impl.Vm) { v.Apart = 1 }},
			{impl.ErrSize, func(_ *impl.Cluster, _ *string, v *impl.Vm) { v.Mem = 81 }},
			{impl.ErrLimit, func(_ *impl.Cluster, _ *string, v *impl.Vm) { v.Cpu = 11 }},
		})
	}
}

func TestBestNodeHasTheMostMemLeft(t *testing.T) {
	nodes := []impl.Node{{Name: "p", Cpu: 4, Mem: 50, Zone: 1}, {Name: "q", Cpu: 4, Mem: 60, Zone: 2}, {Name: "r", Cpu: 4, Mem: 60, Zone: 1}, {Name: "s", Cpu: 4, Mem: 40, Zone: 2}}
	c := impl.Cluster{Nodes: nodes, Tenants: []impl.Tenant{{Cpu: 100, Mem: 1000}}, Over: 100}
	for _, s := range []struct {
		what   string
		change func(c *impl.Cluster)
		want   string
	}{
		{"several with as much left", func(*impl.Cluster) {}, "q"},
		{"no node", func(c *impl.Cluster) { c.Nodes = nil }, ""},
		{"one", func(c *impl.Cluster) { c.Nodes = c.Nodes[3:] }, "s"},
		{"the first is Closed", func(c *impl.Cluster) { c.Nodes[1].Closed = true }, "r"},
		{"both are not open", func(c *impl.Cluster) { c.Nodes[1].Closed, c.Nodes[2].Fenced = true, true }, "p"},
		{"one with less left", func(c *impl.Cluster) { c.Vms = []impl.Vm{{Name: "a", Cpu: 1, Mem: 1, Node: "q"}} }, "r"},
		{"as much left as a smaller one", func(c *impl.Cluster) {
			c.Vms = []impl.Vm{{Name: "a", Cpu: 1, Mem: 10, Node: "q"}, {Name: "b", Cpu: 1, Mem: 10, Node: "r"}}
		}, "p"},
		{"less left than a smaller one", func(c *impl.Cluster) {
			c.Vms = []impl.Vm{{Name: "a", Cpu: 1, Mem: 21, Node: "q"}, {Name: "b", Cpu: 1, Mem: 11, Node: "r"}, {Name: "c", Cpu: 1, Mem: 11, Node: "p"}}
		}, "r"},
		{"the most left, but no Cpu", func(c *impl.Cluster) {
			c.Vms = []impl.Vm{{Name: "a", Cpu: 4, Mem: 1, Node: "q"}, {Name: "b", Cpu: 4, Mem: 1, Node: "r"}}
		}, "p"},
		{"none may", func(c *impl.Cluster) {
			for at := range c.Nodes {
				c.Nodes[at].Closed = true
			}
		}, ""},
		{"a machine of its name", func(c *impl.Cluster) { c.Vms = []impl.Vm{{Name: "small", Cpu: 4, Mem: 60, Node: "q"}} }, "q"},
		{"a machine of its name further on", func(c *impl.Cluster) { c.Vms = []impl.Vm{{Name: "small", Cpu: 4, Mem: 60, Node: "r"}} }, "q"},
		{"a machine of its name and another one", func(c *impl.Cluster) {
			c.Vms = []impl.Vm{{Name: "a", Cpu: 1, Mem: 1, Node: "q"}, {Name: "small", Cpu: 3, Mem: 59, Node: "r"}}
		}, "r"},
		{"not right", func(c *impl.Cluster) { c.Over = 401 }, ""},
	} {
		checkText(t, s.what, checkBest(t, s.what, changedCluster(c, s.change), smallVm()), s.want)
	}
}

func TestBestNodeOfMachines(t *testing.T) {
	for _, c := range []struct {
		what   string
		change func(v *impl.Vm)
		want   string
	}{
		{"small", func(*impl.Vm) {}, "a1"},
		{"Zone 1", func(v *impl.Vm) { v.Zone = 1 }, "a1"},
		{"Zone 2", func(v *impl.Vm) { v.Zone = 2 }, "b1"},
		{"Zone 3, where the node is Fenced", func(v *impl.Vm) { v.Zone = 3 }, ""},
		{"apart from db1 and db2", func(v *impl.Vm) { v.Apart = 1 }, "b1"},
		{"apart from web", func(v *impl.Vm) { v.Apart, v.Tenant = 1, 1 }, "a1"},
		{"apart from all there", func(v *impl.Vm) { v.Apart, v.Zone = 1, 1 }, ""},
		{"all Mem of one", func(v *impl.Vm) { v.Mem = 80 }, "a1"},
		{"more than all Mem", func(v *impl.Vm) { v.Mem = 81 }, ""},
		{"Cpu for one", func(v *impl.Vm) { v.Cpu = 12 }, "b1"},
		{"Cpu for none", func(v *impl.Vm) { v.Cpu = 13 }, ""},
		{"none by its Name", func(v *impl.Vm) { v.Name = "Small" }, ""},
		{"none by its Tenant", func(v *impl.Vm) { v.Tenant = 3 }, ""},
		{"none by its Tenant below 0", func(v *impl.Vm) { v.Tenant = -1 }, ""},
		{"none by its Cpu", func(v *impl.Vm) { v.Cpu = 0 }, ""},
		{"none by its Mem", func(v *impl.Vm) { v.Mem = 0 }, ""},
		{"none by its Zone", func(v *impl.Vm) { v.Zone = -1 }, ""},
		{"none by its Apart", func(v *impl.Vm) { v.Apart = 21 }, ""},
		{"db1, which is there", func(v *impl.Vm) { v.Name = "db1" }, "a1"},
	} {
		v := changedVm(c.change)
		checkText(t, c.what, checkBest(t, c.what, sampleCluster(), v), c.want)
	}
}

func TestMayHoldAndBestNodeOfRandomClusters(t *testing.T) {
	rng := rand.New(rand.NewSource(2202))
	told := map[int64]int{}
	found := 0
	for n := range 3000 {
		c := anyCluster(rng)
		for range 10 {
			op := randomClusterOp(rng, c)
			code := impl.MayHold(c, op.Node, op.Vm)
			told[code]++
			checkMayHold(t, fmt.Sprintf("cluster %d: %+v", n, op), c, op.Node, op.Vm, code)
			if impl.BestNode(c, op.Vm) != "" {
				found++
			}
		}
		if t.Failed() {
			return
		}
	}
	for _, code := range []int64{impl.OK, impl.ErrForm, impl.ErrSize, impl.ErrNone, impl.ErrState, impl.ErrRight, impl.ErrLimit, impl.ErrConflict} {
		if told[code] < 100 {
			t.Errorf("code %d was told %d times", code, told[code])
		}
	}
	if !among(int64(found), 3000, 27000) {
		t.Errorf("%d had a node", found)
	}
}

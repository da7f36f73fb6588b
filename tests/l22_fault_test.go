package tests

import (
	"fmt"
	"math/rand"
	"slices"
	"strings"
	"testing"

	"loop.example/g00038/impl"
)

type clusterCase struct {
	what   string
	right  bool
	change func(c *impl.Cluster)
}

// checkClusterFault holds all four calls to one cluster.
func checkClusterFault(t *testing.T, what string, c impl.Cluster, right bool) {
	t.Helper()
	before := copyCluster(c)
	small := impl.Vm{Name: "small", Cpu: 1, Mem: 1}
	checkNumber(t, what+": ClusterFault", impl.ClusterFault(c), faultCode(right))
	checkEqual(t, what+": said once more", plainClusterRight(c), right)
	checkNumber(t, what+": MayHold", impl.MayHold(c, "a1", small), plainMayHold(c, "a1", small))
	checkBest(t, what, c, small)
	checkCluster(t, what+": what was handed in", c, before)
	got := checkClusterRun(t, what, c, []impl.ClusterOp{clTick(c.Time), {}, clPlace(small)})
	checkNumber(t, what+": RunCluster", got.Code, faultCode(right))
	if !right {
		checkNumber(t, what+": MayHold", impl.MayHold(c, "a1", small), impl.ErrForm)
		checkText(t, what+": BestNode", impl.BestNode(c, small), "")
	}
}

func checkClusterCases(t *testing.T, cases []clusterCase) {
	t.Helper()
	for _, c := range cases {
		checkClusterFault(t, c.what, changedCluster(sampleCluster(), c.change), c.right)
	}
}

func clusterBounds(what string, bounds map[int64]bool, put func(c *impl.Cluster, n int64)) []clusterCase {
	var cases []clusterCase
	for n, right := range bounds {
		cases = append(cases, clusterCase{fmt.Sprintf("%s %d", what, n), right, func(c *impl.Cluster) { put(c, n) }})
	}
	return cases
}

// eachNode puts each number at the first, a middle and the last node, since each is looked at; no machine is on any.
func eachNode(what string, bounds map[int64]bool, field func(n *impl.Node) *int64) []clusterCase {
	var cases []clusterCase
	for _, at := range []int{0, 2, 4} {
		cases = append(cases, clusterBounds(fmt.Sprintf("node %d: %s", at, what), withEnds(bounds), func(c *impl.Cluster, n int64) {
			c.Vms = nil
			*field(&c.Nodes[at]) = n
		})...)
	}
	return cases
}

// eachVm does so with the machines, which are on no node then.
func eachVm(what string, bounds map[int64]bool, field func(v *impl.Vm) *int64) []clusterCase {
	var cases []clusterCase
	for _, at := range []int{0, 3, 5} {
		cases = append(cases, clusterBounds(fmt.Sprintf("machine %d: %s", at, what), withEnds(bounds), func(c *impl.Cluster, n int64) {
			c.Tenants[2] = impl.Tenant{Cpu: 100, Mem: 2000}
			c.Tenants[0] = c.Tenants[2]
			c.Vms[at].Node = ""
			*field(&c.Vms[at]) = n
		})...)
	}
	return cases
}

func numbered(prefix string, count int64) []string {
	var names []string
	for n := range count {
		names = append(names, fmt.Sprintf("%s%04d", prefix, n))
	}
	return names
}

func manyNodes(count int64) []impl.Node {
	var nodes []impl.Node
	for _, name := range numbered("n", count) {
		nodes = append(nodes, impl.Node{Name: name, Cpu: 1, Mem: 1, Zone: 1})
	}
	return nodes
}

func manyVms(count int64) []impl.Vm {
	var vms []impl.Vm
	for _, name := range numbered("v", count) {
		vms = append(vms, impl.Vm{Name: name, Tenant: 1, Cpu: 1, Mem: 1})
	}
	return vms
}

func TestClusterFaultOfNothingAndTheLeast(t *testing.T) {
	checkClusterFault(t, "nothing", impl.Cluster{}, false)
	least := impl.Cluster{Tenants: []impl.Tenant{{}}, Over: 100}
	checkClusterFault(t, "the least", least, true)
	least.Nodes, least.Vms = []impl.Node{}, []impl.Vm{}
	checkClusterFault(t, "empty lists", least, true)
	least.Tenants = []impl.Tenant{}
	checkClusterFault(t, "empty Tenants", least, false)
	checkClusterFault(t, "the sample", sampleCluster(), true)
}

func TestClusterFaultOfHowMany(t *testing.T) {
	cases := clusterBounds("Nodes:", map[int64]bool{0: true, 1: true, 11: true, 12: true, 13: false, 1000: false, 1001: false}, func(c *impl.Cluster, n int64) {
		c.Vms, c.Nodes = nil, manyNodes(n)
	})
	cases = append(cases, clusterBounds("Vms:", map[int64]bool{0: true, 1: true, 29: true, 30: true, 31: false, 1000: false, 1001: false}, func(c *impl.Cluster, n int64) {
		c.Vms = manyVms(n)
	})...)
	cases = append(cases, clusterBounds("Tenants:", map[int64]bool{0: false, 1: true, 2: true, 7: true, 8: true, 9: false, 1000: false, 1001: false}, func(c *impl.Cluster, n int64) {
		c.Vms, c.Tenants = nil, make([]impl.Tenant, n)
	})...)
	checkClusterCases(t, cases)
}

// clusterNames tells of texts whether they are names.
func clusterNames() map[string]bool {
	names := map[string]bool{
		"a": true, "0": true, "-": true, "z9-": true, strings.Repeat("m", 19): true, strings.Repeat("m", 20): true, strings.Repeat("m", 21): false, strings.Repeat("m", 70000): false,
		"": false, "A": false, "aB": false, "a b": false, " ": false, "a ": false, " a": false, "a_b": false, "a.b": false, "a/b": false, "a:": false, "a`": false, "a{": false, "a,": false, "a\x00": false, "\x00": false, "a\n": false, "é": false, "a\xff": false,
	}
	return names
}

func TestClusterFaultOfNames(t *testing.T) {
	var cases []clusterCase
	for name, right := range clusterNames() {
		what := fmt.Sprintf("%.30q", name)
		cases = append(cases, clusterCase{"a node of the name " + what, right, func(c *impl.Cluster) { c.Vms, c.Nodes = nil, c.Nodes[:1]; c.Nodes[0].Name = name }})
		cases = append(cases, clusterCase{"a machine of the name " + what, right, func(c *impl.Cluster) { c.Vms = c.Vms[:1]; c.Vms[0].Name = name }})
		if name != "" && !right {
			cases = append(cases, clusterCase{"a machine on " + what, false, func(c *impl.Cluster) { c.Vms[0].Node = name }})
		}
	}
	checkClusterCases(t, cases)
}

func TestClusterFaultOfTheOrderOfNames(t *testing.T) {
	var cases []clusterCase
	for what, right := range map[string]bool{
		"a b c d e": true, "a aa aaa b ba": true, "a - b c d": false, "- 0 9 a z": true, "-- -0 -a 0- a-": true, "a-a a-b a0 aa b": true,
		"a a b c d": false, "a b c d d": false, "a b c c d": false, "b a c d e": false, "a b d c e": false, "a b c e d": false, "aa a b c d": false, "a b c d cz": false, "a9 a10 b c d": false, "a10 a9 b c d": true, "z0 a b c d": false,
	} {
		names := strings.Fields(what)
		cases = append(cases, clusterCase{"Nodes " + what, right, func(c *impl.Cluster) {
			c.Vms = nil
			for at, name := range names {
				c.Nodes[at].Name = name
			}
		}})
		cases = append(cases, clusterCase{"Vms " + what, right, func(c *impl.Cluster) {
			c.Vms = c.Vms[:5]
			for at, name := range names {
				c.Vms[at].Name = name
			}
		}})
	}
	checkClusterCases(t, cases)
}

func TestClusterFaultOfNodes(t *testing.T) {
	cases := eachNode("Cpu", map[int64]bool{-1: false, 0: false, 1: true, 2: true, 63: true, 64: true, 65: false}, func(n *impl.Node) *int64 { return &n.Cpu })
	cases = append(cases, eachNode("Mem", map[int64]bool{-1: false, 0: false, 1: true, 2: true, 999: true, 1000: true, 1001: false}, func(n *impl.Node) *int64 { return &n.Mem })...)
	cases = append(cases, eachNode("Zone", map[int64]bool{-1: false, 0: false, 1: true, 2: true, 19: true, 20: true, 21: false}, func(n *impl.Node) *int64 { return &n.Zone })...)
	cases = append(cases, eachNode("Beat", map[int64]bool{-1: false, 0: true, 1: true, 99: true, 100: true, 101: false, 1 << 40: false}, func(n *impl.Node) *int64 { return &n.Beat })...)
	for at := range 5 {
		for state := range 4 {
			cases = append(cases, clusterCase{fmt.Sprintf("node %d in state %d", at, state), true, func(c *impl.Cluster) {
				c.Nodes[at].Fenced, c.Nodes[at].Closed = state&1 == 1, state&2 == 2
			}})
		}
	}
	checkClusterCases(t, cases)
}

func TestClusterFaultOfVms(t *testing.T) {
	cases := eachVm("Cpu", map[int64]bool{-1: false, 0: false, 1: true, 2: true, 63: true, 64: true, 65: false}, func(v *impl.Vm) *int64 { return &v.Cpu })
	cases = append(cases, eachVm("Mem", map[int64]bool{-1: false, 0: false, 1: true, 2: true, 999: true, 1000: true, 1001: false}, func(v *impl.Vm) *int64 { return &v.Mem })...)
	cases = append(cases, eachVm("Zone", map[int64]bool{-1: false, 0: true, 1: true, 19: true, 20: true, 21: false}, func(v *impl.Vm) *int64 { return &v.Zone })...)
	cases = append(cases, eachVm("Apart", map[int64]bool{-1: false, 0: true, 1: true, 19: true, 20: true, 21: false}, func(v *impl.Vm) *int64 { return &v.Apart })...)
	cases = append(cases, eachVm("Epoch", map[int64]bool{-1: false, 0: true, 1: true, 1<<40 - 1: true, 1 << 40: true, 1<<40 + 1: false}, func(v *impl.Vm) *int64 { return &v.Epoch })...)
	cases = append(cases, eachVm("Tenant", map[int64]bool{-1: false, 0: true, 1: true, 2: true, 3: false, 7: false, 8: false}, func(v *impl.Vm) *int64 { return &v.Tenant })...)
	checkClusterCases(t, cases)
}

// Each reason against a machine on its node counts, whether the node is open, Closed, Fenced or both.
func TestClusterFaultOfWhereMachinesAre(t *testing.T) {
	reasons := []clusterCase{
		{"as it is", true, func(*impl.Cluster) {}},
		{"no such node", false, func(c *impl.Cluster) { c.Vms[0].Node = "zz" }},
		{"a name like a node's", false, func(c *impl.Cluster) { c.Vms[0].Node = "a" }},
		{"a machine's name", false, func(c *impl.Cluster) { c.Vms[0].Node = "db1" }},
		{"on no node", true, func(c *impl.Cluster) { c.Vms[0].Node = "" }},
		{"its Zone", true, func(c *impl.Cluster) { c.Vms[0].Zone = 1 }},
		{"another Zone", false, func(c *impl.Cluster) { c.Vms[0].Zone = 2 }},
		{"another Zone on no node", true, func(c *impl.Cluster) { c.Vms[0].Zone, c.Vms[0].Node = 2, "" }},
		{"beside one from which it is apart", false, func(c *impl.Cluster) { c.Vms[1].Node = "a1" }},
		{"beside one of another Apart", true, func(c *impl.Cluster) { c.Vms[1].Node, c.Vms[1].Apart = "a1", 2 }},
		{"beside one of no Apart", true, func(c *impl.Cluster) { c.Vms[1].Node, c.Vms[1].Apart = "a1", 0 }},
		{"both of no Apart", true, func(c *impl.Cluster) { c.Vms[1].Node, c.Vms[1].Apart, c.Vms[0].Apart = "a1", 0, 0 }},
		{"beside one of another tenant", true, func(c *impl.Cluster) { c.Vms[1].Node, c.Vms[1].Tenant = "a1", 1 }},
		{"all Mem", true, func(c *impl.Cluster) { c.Vms[0].Mem = 100 }},
		{"more than all Mem", false, func(c *impl.Cluster) { c.Vms[0].Mem = 101 }},
		{"all Cpu", true, func(c *impl.Cluster) { c.Vms[0].Cpu = 12 }},
		{"more than all Cpu", false, func(c *impl.Cluster) { c.Vms[0].Cpu = 13 }},
		{"less Over", false, func(c *impl.Cluster) { c.Vms[0].Cpu, c.Over = 12, 149 }},
		{"two with all Mem", true, func(c *impl.Cluster) { c.Vms[0].Mem, c.Vms[2].Node, c.Vms[2].Mem = 60, "a1", 40 }},
		{"two with more than all Mem", false, func(c *impl.Cluster) { c.Vms[0].Mem, c.Vms[2].Node, c.Vms[2].Mem = 60, "a1", 41 }},
		{"two with all Cpu", true, func(c *impl.Cluster) { c.Vms[0].Cpu, c.Vms[2].Node, c.Vms[2].Cpu = 5, "a1", 7 }},
		{"two with more than all Cpu", false, func(c *impl.Cluster) { c.Vms[0].Cpu, c.Vms[2].Node, c.Vms[2].Cpu = 5, "a1", 8 }},
	}
	for state := range 4 {
		for _, reason := range reasons {
			c := changedCluster(sampleCluster(), func(c *impl.Cluster) {
				c.Tenants[2].Mem = 100
				c.Nodes[0].Fenced, c.Nodes[0].Closed = state&1 == 1, state&2 == 2
				reason.change(c)
			})
			checkClusterFault(t, fmt.Sprintf("%s, state %d", reason.what, state), c, reason.right)
		}
	}
}

func TestClusterFaultOfTenants(t *testing.T) {
	var cases []clusterCase
	for _, at := range []int{0, 1, 2} {
		noVms := func(put func(k *impl.Tenant, n int64)) func(c *impl.Cluster, n int64) {
			return func(c *impl.Cluster, n int64) {
				c.Vms = nil
				put(&c.Tenants[at], n)
			}
		}
		bounds := withEnds(map[int64]bool{-1: false, 0: true, 1: true, 9999: true, 10000: true, 10001: false})
		cases = append(cases, clusterBounds(fmt.Sprintf("tenant %d: Cpu", at), bounds, noVms(func(k *impl.Tenant, n int64) { k.Cpu = n }))...)
		cases = append(cases, clusterBounds(fmt.Sprintf("tenant %d: Mem", at), bounds, noVms(func(k *impl.Tenant, n int64) { k.Mem = n }))...)
		bills := withEnds(map[int64]bool{-1: false, 0: true, 1: true, 1<<60 - 1: true, 1 << 60: true, 1<<60 + 1: false})
		cases = append(cases, clusterBounds(fmt.Sprintf("tenant %d: Bill", at), bills, noVms(func(k *impl.Tenant, n int64) { k.Bill = n }))...)
	}
	checkClusterCases(t, cases)
}

// What a tenant has together counts wherever its machines are: the sample's have 4 and 40, 8 and 45, 1 and 1.
func TestClusterFaultOfWhatTenantsHaveTogether(t *testing.T) {
	var cases []clusterCase
	for at, used := range [][2]int64{{4, 40}, {8, 45}, {1, 1}} {
		for _, node := range []bool{true, false} {
			put := func(cpu int64, mem int64) func(c *impl.Cluster) {
				return func(c *impl.Cluster) {
					c.Tenants[at].Cpu, c.Tenants[at].Mem = cpu, mem
					for n := range c.Vms {
						if !node {
							c.Vms[n].Node = ""
						}
					}
				}
			}
			what := fmt.Sprintf("tenant %d, on nodes %v: ", at, node)
			cases = append(cases,
				clusterCase{what + "at its bounds", true, put(used[0], used[1])},
				clusterCase{what + "above its Cpu", false, put(used[0]-1, used[1])},
				clusterCase{what + "above its Mem", false, put(used[0], used[1]-1)},
				clusterCase{what + "nothing", false, put(0, 0)},
			)
		}
	}
	checkClusterCases(t, cases)
}

func TestClusterFaultOfOverAndTime(t *testing.T) {
	cases := clusterBounds("Over", withEnds(map[int64]bool{-1: false, 0: false, 99: false, 100: true, 101: true, 399: true, 400: true, 401: false}), func(c *impl.Cluster, n int64) { c.Over = n })
	times := withEnds(map[int64]bool{-1: false, 0: true, 1: true, 1<<40 - 1: true, 1 << 40: true, 1<<40 + 1: false})
	cases = append(cases, clusterBounds("Time", times, func(c *impl.Cluster, n int64) {
		c.Time = n
		for at := range c.Nodes {
			c.Nodes[at].Beat = 0
		}
	})...)
	cases = append(cases, clusterBounds("Time, without a node,", times, func(c *impl.Cluster, n int64) { c.Time, c.Nodes, c.Vms = n, nil, nil })...)
	checkClusterCases(t, cases)
}

// clusterFields are all numbers of a cluster.
func clusterFields(c *impl.Cluster) []*int64 {
	fields := []*int64{&c.Over, &c.Time}
	for at := range c.Nodes {
		n := &c.Nodes[at]
		fields = append(fields, &n.Cpu, &n.Mem, &n.Zone, &n.Beat)
	}
	for at := range c.Vms {
		v := &c.Vms[at]
		fields = append(fields, &v.Tenant, &v.Cpu, &v.Mem, &v.Zone, &v.Apart, &v.Epoch)
	}
	for at := range c.Tenants {
		k := &c.Tenants[at]
		fields = append(fields, &k.Cpu, &k.Mem, &k.Bill)
	}
	return fields
}

func TestClusterFaultOfRandomClusters(t *testing.T) {
	rng := rand.New(rand.NewSource(2201))
	wrong := 0
	for n := range 4000 {
		c := anyCluster(rng)
		checkNumber(t, fmt.Sprintf("cluster %d", n), impl.ClusterFault(c), impl.OK)
		fields := clusterFields(&c)
		*fields[rng.Intn(len(fields))] = oneOf(rng, -1<<63, -1, 0, 1, 2, 3, 5, 8, 20, 21, 30, 64, 65, 99, 100, 400, 401, 1000, 1001, 10000, 10001, 1<<40, 1<<40+1, 1<<60, 1<<60+1, 1<<63-1)
		if len(c.Vms) > 0 && rng.Intn(2) == 0 {
			c.Vms[rng.Intn(len(c.Vms))].Node = randomNodeName(rng, c)
		}
		right := plainClusterRight(c)
		checkNumber(t, fmt.Sprintf("cluster %d: %+v", n, c), impl.ClusterFault(c), faultCode(right))
		checkClusterRun(t, fmt.Sprintf("cluster %d", n), c, []impl.ClusterOp{clTick(c.Time + 1)})
		if !right {
			wrong++
		}
		if t.Failed() {
			return
		}
	}
	if !among(int64(wrong), 1000, 3500) {
		t.Errorf("%d of 4000 were wrong", wrong)
	}
}

// Lists are bounded ahead of all that goes through them: a cluster with far too much is answered at once.
func TestClusterFaultOfFarTooMuch(t *testing.T) {
	far := sampleCluster()
	far.Vms = slices.Repeat([]impl.Vm{{Name: "a", Cpu: 1, Mem: 1, Node: "a1"}}, 200000)
	far.Nodes = slices.Repeat(far.Nodes, 40000)
	checkNumber(t, "far too much", impl.ClusterFault(far), impl.ErrForm)
	checkNumber(t, "far too much: MayHold", impl.MayHold(far, "a1", far.Vms[0]), impl.ErrForm)
	checkText(t, "far too much: BestNode", impl.BestNode(far, far.Vms[0]), "")
	checkNumber(t, "far too much: RunCluster", impl.RunCluster(far, nil).Code, impl.ErrForm)
}

package tests

import (
	"fmt"
	"math/rand"
	"slices"
	"strings"
	"testing"

	"loop.example/g00038/impl"
)

func clPlace(v impl.Vm) impl.ClusterOp { return impl.ClusterOp{Kind: impl.ClPlace, Vm: v} }

func clStop(name string) impl.ClusterOp { return impl.ClusterOp{Kind: impl.ClStop, Name: name} }

func clMove(name string, node string) impl.ClusterOp {
	return impl.ClusterOp{Kind: impl.ClMove, Name: name, Node: node}
}

func clDrain(node string) impl.ClusterOp { return impl.ClusterOp{Kind: impl.ClDrain, Node: node} }

func clBeat(node string) impl.ClusterOp { return impl.ClusterOp{Kind: impl.ClBeat, Node: node} }

func clTick(time int64) impl.ClusterOp { return impl.ClusterOp{Kind: impl.ClTick, Time: time} }

func clFence(node string) impl.ClusterOp { return impl.ClusterOp{Kind: impl.ClFence, Node: node} }

func clReady(node string) impl.ClusterOp { return impl.ClusterOp{Kind: impl.ClReady, Node: node} }

// sampleCluster has a node that is Closed and one that is Fenced, each with a machine still, and a machine on no node.
func sampleCluster() impl.Cluster {
	return impl.Cluster{
		Nodes: []impl.Node{
			{Name: "a1", Cpu: 8, Mem: 100, Zone: 1, Beat: 90},
			{Name: "a2", Cpu: 8, Mem: 80, Zone: 1, Beat: 100},
			{Name: "b1", Cpu: 10, Mem: 100, Zone: 2, Beat: 80},
			{Name: "b2", Cpu: 16, Mem: 200, Zone: 2, Beat: 95, Closed: true},
			{Name: "c1", Cpu: 16, Mem: 300, Zone: 3, Beat: 0, Fenced: true},
		},
		Vms: []impl.Vm{
			{Name: "db1", Tenant: 0, Cpu: 2, Mem: 20, Apart: 1, Node: "a1", Epoch: 1},
			{Name: "db2", Tenant: 0, Cpu: 2, Mem: 20, Apart: 1, Node: "a2", Epoch: 3},
			{Name: "idle", Tenant: 2, Cpu: 1, Mem: 1},
			{Name: "old", Tenant: 1, Cpu: 4, Mem: 10, Zone: 2, Node: "b2", Epoch: 2},
			{Name: "stuck", Tenant: 1, Cpu: 1, Mem: 5, Node: "c1", Epoch: 7},
			{Name: "web", Tenant: 1, Cpu: 3, Mem: 30, Zone: 2, Apart: 1, Node: "b1", Epoch: 1},
		},
		Tenants: []impl.Tenant{{Cpu: 20, Mem: 200, Bill: 5}, {Cpu: 100, Mem: 2000}, {Cpu: 10, Mem: 50, Bill: 1 << 60}},
		Over:    150,
		Time:    100,
	}
}

func copyCluster(c impl.Cluster) impl.Cluster {
	c.Nodes, c.Vms, c.Tenants = slices.Clone(c.Nodes), slices.Clone(c.Vms), slices.Clone(c.Tenants)
	return c
}

func changedCluster(c impl.Cluster, change func(c *impl.Cluster)) impl.Cluster {
	c = copyCluster(c)
	change(&c)
	return c
}

// sameCluster takes an empty list and none as alike.
func sameCluster(a impl.Cluster, b impl.Cluster) bool {
	if a.Over != b.Over || a.Time != b.Time || !slices.Equal(a.Nodes, b.Nodes) {
		return false
	}
	return slices.Equal(a.Vms, b.Vms) && slices.Equal(a.Tenants, b.Tenants)
}

func checkCluster(t *testing.T, what string, got impl.Cluster, want impl.Cluster) {
	t.Helper()
	if !sameCluster(got, want) {
		t.Errorf("%s: got %.9000s\nwant %.9000s", what, fmt.Sprintf("%+v", got), fmt.Sprintf("%+v", want))
	}
}

func checkNames(t *testing.T, what string, got []string, want []string) {
	t.Helper()
	if !slices.Equal(got, want) {
		t.Errorf("%s: got %q, want %q", what, got, want)
	}
}

func checkClusterOuts(t *testing.T, what string, got []impl.ClusterOut, want []impl.ClusterOut) {
	t.Helper()
	same := func(a impl.ClusterOut, b impl.ClusterOut) bool {
		return a.Code == b.Code && a.Node == b.Node && slices.Equal(a.Vms, b.Vms)
	}
	if !slices.EqualFunc(got, want, same) {
		t.Errorf("%s: got %.3000s\nwant %.3000s", what, fmt.Sprintf("%+v", got), fmt.Sprintf("%+v", want))
	}
}

// nodeOf and vmOf answer nothing but the name's own, so that a test that asks for another one fails.
func nodeOf(c impl.Cluster, name string) impl.Node {
	for _, n := range c.Nodes {
		if n.Name == name {
			return n
		}
	}
	return impl.Node{}
}

func vmOf(c impl.Cluster, name string) impl.Vm {
	for _, v := range c.Vms {
		if v.Name == name {
			return v
		}
	}
	return impl.Vm{}
}

func plainName(name string) bool {
	return name != "" && len(name) <= 20 && strings.Trim(name, "abcdefghijklmnopqrstuvwxyz0123456789-") == ""
}

// plainVm is what chapter 23 says of a machine in MayHold, said once more.
func plainVm(c impl.Cluster, v impl.Vm) bool {
	right := plainName(v.Name) && among(v.Cpu, 1, 64) && among(v.Mem, 1, 1000) && among(v.Zone, 0, 20) && among(v.Apart, 0, 20)
	return right && among(v.Tenant, 0, int64(len(c.Tenants))-1)
}

// plainReasons are all codes against a machine on a node, in their order, without what is not right.
func plainReasons(c impl.Cluster, node string, v impl.Vm) []int64 {
	n := nodeOf(c, node)
	if node == "" || n.Name != node {
		return []int64{impl.ErrNone}
	}
	var codes []int64
	if n.Fenced || n.Closed {
		codes = append(codes, impl.ErrState)
	}
	if v.Zone != 0 && v.Zone != n.Zone {
		codes = append(codes, impl.ErrRight)
	}
	cpu, mem := v.Cpu, v.Mem
	meets := false
	for _, other := range c.Vms {
		if other.Node == node && other.Name != v.Name {
			cpu, mem = cpu+other.Cpu, mem+other.Mem
			meets = meets || v.Apart != 0 && other.Apart == v.Apart && other.Tenant == v.Tenant
		}
	}
	if meets {
		codes = append(codes, impl.ErrConflict)
	}
	if mem > n.Mem {
		codes = append(codes, impl.ErrSize)
	}
	if 100*cpu > c.Over*n.Cpu {
		codes = append(codes, impl.ErrLimit)
	}
	return codes
}

func plainVmsRight(c impl.Cluster) bool {
	ahead := ""
	right := len(c.Vms) <= 30
	for _, v := range c.Vms {
		right = right && plainVm(c, v) && v.Name > ahead && among(v.Epoch, 0, 1<<40)
		ahead = v.Name
		if v.Node == "" {
			continue
		}
		for _, code := range plainReasons(c, v.Node, v) {
			right = right && code == impl.ErrState
		}
	}
	return right
}

// plainClusterRight is what chapter 23 says of ClusterFault, said once more.
func plainClusterRight(c impl.Cluster) bool {
	right := len(c.Nodes) <= 12 && len(c.Vms) <= 30 && among(int64(len(c.Tenants)), 1, 8) && among(c.Over, 100, 400) && among(c.Time, 0, 1<<40)
	if !right {
		return false
	}
	ahead := ""
	for _, n := range c.Nodes {
		right = right && plainName(n.Name) && n.Name > ahead && among(n.Cpu, 1, 64) && among(n.Mem, 1, 1000) && among(n.Zone, 1, 20) && among(n.Beat, 0, c.Time)
		ahead = n.Name
	}
	for number, k := range c.Tenants {
		cpu, mem := int64(0), int64(0)
		for _, v := range c.Vms {
			if v.Tenant == int64(number) {
				cpu, mem = cpu+v.Cpu, mem+v.Mem
			}
		}
		right = right && among(k.Cpu, 0, 10000) && among(k.Mem, 0, 10000) && among(k.Bill, 0, 1<<60) && cpu <= k.Cpu && mem <= k.Mem
	}
	return right && plainVmsRight(c)
}

func plainMayHold(c impl.Cluster, node string, v impl.Vm) int64 {
	switch {
	case len(node) > 65536:
		return impl.ErrSize
	case !plainClusterRight(c) || !plainVm(c, v):
		return impl.ErrForm
	}
	return append(plainReasons(c, node, v), impl.OK)[0]
}

// plainBest sorts the nodes that may hold a machine by what is left there.
func plainBest(c impl.Cluster, v impl.Vm) string {
	left := map[string]int64{}
	names := []string{}
	for _, n := range c.Nodes {
		if len(plainReasons(c, n.Name, v)) > 0 {
			continue
		}
		names = append(names, n.Name)
		left[n.Name] = n.Mem
		for _, other := range c.Vms {
			if other.Node == n.Name && other.Name != v.Name {
				left[n.Name] -= other.Mem
			}
		}
	}
	slices.SortStableFunc(names, func(a string, b string) int { return int(left[b] - left[a]) })
	return append(names, "")[0]
}

// plainHost is chapter 23's ops, said once more, with nodes and machines by name.
type plainHost struct {
	impl.Cluster
}

func (p *plainHost) node(name string) *impl.Node {
	for at := range p.Nodes {
		if p.Nodes[at].Name == name {
			return &p.Nodes[at]
		}
	}
	return nil
}

func (p *plainHost) vm(name string) *impl.Vm {
	for at := range p.Vms {
		if p.Vms[at].Name == name {
			return &p.Vms[at]
		}
	}
	return nil
}

func (p *plainHost) place(v impl.Vm) impl.ClusterOut {
	switch {
	case !plainVm(p.Cluster, v):
		return impl.ClusterOut{Code: impl.ErrForm}
	case p.vm(v.Name) != nil:
		return impl.ClusterOut{Code: impl.ErrConflict}
	case len(p.Vms) >= 30:
		return impl.ClusterOut{Code: impl.ErrCount}
	}
	cpu, mem := v.Cpu, v.Mem
	for _, other := range p.Vms {
		if other.Tenant == v.Tenant {
			cpu += other.Cpu
			mem += other.Mem
		}
	}
	if cpu > p.Tenants[v.Tenant].Cpu || mem > p.Tenants[v.Tenant].Mem {
		return impl.ClusterOut{Code: impl.ErrRight}
	}
	v.Node, v.Epoch = plainBest(p.Cluster, v), 1
	if v.Node == "" {
		return impl.ClusterOut{Code: impl.ErrNone}
	}
	p.Vms = append(p.Vms, v)
	slices.SortFunc(p.Vms, func(a impl.Vm, b impl.Vm) int { return strings.Compare(a.Name, b.Name) })
	return impl.ClusterOut{Node: v.Node}
}

func (p *plainHost) stop(name string) impl.ClusterOut {
	v := p.vm(name)
	if v == nil {
		return impl.ClusterOut{Code: impl.ErrNone}
	}
	out := impl.ClusterOut{Node: v.Node}
	var left []impl.Vm
	for _, other := range p.Vms {
		if other.Name != name {
			left = append(left, other)
		}
	}
	p.Vms = left
	return out
}

func (p *plainHost) move(name string, node string) impl.ClusterOut {
	v := p.vm(name)
	if v == nil {
		return impl.ClusterOut{Code: impl.ErrNone}
	}
	if v.Node == "" || v.Node == node {
		return impl.ClusterOut{Code: impl.ErrState}
	}
	code := plainMayHold(p.Cluster, node, *v)
	if code != impl.OK {
		return impl.ClusterOut{Code: code}
	}
	v.Node = node
	return impl.ClusterOut{Node: node}
}

func (p *plainHost) drain(n *impl.Node) impl.ClusterOut {
	if n.Closed || n.Fenced {
		return impl.ClusterOut{Code: impl.ErrState}
	}
	before := copyCluster(p.Cluster)
	out := impl.ClusterOut{Node: n.Name}
	n.Closed = true
	for at, v := range p.Vms {
		if v.Node != n.Name {
			continue
		}
		p.Vms[at].Node = plainBest(p.Cluster, v)
		if p.Vms[at].Node == "" {
			p.Cluster = before
			return impl.ClusterOut{Code: impl.ErrLimit}
		}
		out.Vms = append(out.Vms, v.Name)
	}
	return out
}

func (p *plainHost) ready(n *impl.Node) impl.ClusterOut {
	open := !n.Closed && !n.Fenced
	for _, v := range p.Vms {
		open = open || v.Node == n.Name
	}
	if open {
		return impl.ClusterOut{Code: impl.ErrState}
	}
	n.Closed, n.Fenced, n.Beat = false, false, p.Time
	return impl.ClusterOut{Node: n.Name}
}

func (p *plainHost) fence(n *impl.Node) impl.ClusterOut {
	if n.Fenced {
		return impl.ClusterOut{Code: impl.ErrState}
	}
	out := impl.ClusterOut{Node: n.Name}
	n.Fenced = true
	for at, v := range p.Vms {
		if v.Node == n.Name {
			p.Vms[at].Node = ""
			out.Vms = append(out.Vms, v.Name)
		}
	}
	return out
}

func (p *plainHost) tick(time int64) impl.ClusterOut {
	if !among(time, p.Time, 1<<40) {
		return impl.ClusterOut{Code: impl.ErrForm}
	}
	for number := range p.Tenants {
		cpu := int64(0)
		for _, v := range p.Vms {
			if v.Tenant == int64(number) && v.Node != "" {
				cpu += v.Cpu
			}
		}
		p.Tenants[number].Bill = min(1<<60, p.Tenants[number].Bill+(time-p.Time)*cpu)
	}
	p.Time = time
	for at := range p.Nodes {
		if p.Nodes[at].Beat+30 < time {
			p.fence(&p.Nodes[at])
		}
	}
	var out impl.ClusterOut
	for at, v := range p.Vms {
		if v.Node != "" {
			continue
		}
		node := plainBest(p.Cluster, v)
		if node != "" {
			p.Vms[at].Node, p.Vms[at].Epoch = node, min(1<<40, v.Epoch+1)
			out.Vms = append(out.Vms, v.Name)
		}
	}
	return out
}

func (p *plainHost) doNode(kind int64, n *impl.Node) impl.ClusterOut {
	switch {
	case n == nil:
		return impl.ClusterOut{Code: impl.ErrNone}
	case kind == 3:
		return p.drain(n)
	case kind == 6:
		return p.fence(n)
	case kind == 7:
		return p.ready(n)
	case n.Fenced:
		return impl.ClusterOut{Code: impl.ErrState}
	}
	n.Beat = p.Time
	return impl.ClusterOut{Node: n.Name}
}

func (p *plainHost) do(op impl.ClusterOp) impl.ClusterOut {
	switch op.Kind {
	case 1:
		return p.place(op.Vm)
	case 2:
		return p.stop(op.Name)
	case 3, 4, 6, 7:
		return p.doNode(op.Kind, p.node(op.Node))
	case 5:
		return p.tick(op.Time)
	case 8:
		return p.move(op.Name, op.Node)
	}
	return impl.ClusterOut{Code: impl.ErrForm}
}

func plainClusterRun(c impl.Cluster, ops []impl.ClusterOp) impl.ClusterRun {
	if len(ops) > 1000 {
		return impl.ClusterRun{Code: impl.ErrSize}
	}
	if !plainClusterRight(c) {
		return impl.ClusterRun{Code: impl.ErrForm}
	}
	p := &plainHost{copyCluster(c)}
	var outs []impl.ClusterOut
	for _, op := range ops {
		outs = append(outs, p.do(op))
	}
	return impl.ClusterRun{Cluster: p.Cluster, Outs: outs}
}

// checkClusterRun holds a run to the plain one, and what was handed in to what it was.
func checkClusterRun(t *testing.T, what string, c impl.Cluster, ops []impl.ClusterOp) impl.ClusterRun {
	t.Helper()
	before, asked := copyCluster(c), slices.Clone(ops)
	want := plainClusterRun(c, ops)
	got := impl.RunCluster(c, ops)
	checkNumber(t, what+": Code", got.Code, want.Code)
	checkClusterOuts(t, what, got.Outs, want.Outs)
	checkCluster(t, what+": the cluster", got.Cluster, want.Cluster)
	checkCluster(t, what+": what was handed in", c, before)
	if !slices.Equal(ops, asked) {
		t.Errorf("%s: the ops are others behind the run", what)
	}
	return got
}

// checkClusterOps holds a run's answers to what is told here, and answers the cluster behind it.
func checkClusterOps(t *testing.T, what string, c impl.Cluster, ops []impl.ClusterOp, outs ...impl.ClusterOut) impl.Cluster {
	t.Helper()
	got := checkClusterRun(t, what, c, ops)
	checkNumber(t, what+": Code", got.Code, impl.OK)
	checkClusterOuts(t, what, got.Outs, outs)
	checkNumber(t, what+": ClusterFault behind it", impl.ClusterFault(got.Cluster), impl.OK)
	return got.Cluster
}

// checkRefusedOp holds one op to a code, and to a cluster that stays as it was.
func checkRefusedOp(t *testing.T, what string, c impl.Cluster, op impl.ClusterOp, code int64) {
	t.Helper()
	behind := checkClusterOps(t, what, c, []impl.ClusterOp{op}, impl.ClusterOut{Code: code})
	checkCluster(t, what+": behind what was refused", behind, c)
}

func clusterCodes(codes ...int64) []impl.ClusterOut {
	var outs []impl.ClusterOut
	for _, code := range codes {
		outs = append(outs, impl.ClusterOut{Code: code})
	}
	return outs
}

func atNode(node string, vms ...string) impl.ClusterOut {
	return impl.ClusterOut{Node: node, Vms: vms}
}

// checkMayHold holds MayHold and BestNode to the plain ones, and what was handed in to what it was.
func checkMayHold(t *testing.T, what string, c impl.Cluster, node string, v impl.Vm, code int64) {
	t.Helper()
	before := copyCluster(c)
	checkNumber(t, what+": MayHold", impl.MayHold(c, node, v), code)
	checkNumber(t, what+": MayHold, said once more", plainMayHold(c, node, v), code)
	checkBest(t, what, c, v)
	checkCluster(t, what+": what was handed in", c, before)
}

func checkBest(t *testing.T, what string, c impl.Cluster, v impl.Vm) string {
	t.Helper()
	want := ""
	if plainClusterRight(c) && plainVm(c, v) {
		want = plainBest(c, v)
	}
	got := impl.BestNode(c, v)
	checkText(t, what+": BestNode", got, want)
	return got
}

// randomVmName is one of few, so that they meet.
func randomVmName(rng *rand.Rand) string {
	return "v" + strings.Repeat("x", rng.Intn(2)) + fmt.Sprint(rng.Intn(20))
}

func randomNodeName(rng *rand.Rand, c impl.Cluster) string {
	if len(c.Nodes) == 0 || rng.Intn(20) == 0 {
		return []string{"", "zz", "n", "N1"}[rng.Intn(4)]
	}
	return c.Nodes[rng.Intn(len(c.Nodes))].Name
}

func randomVm(rng *rand.Rand, c impl.Cluster) impl.Vm {
	return impl.Vm{
		Name:   randomVmName(rng),
		Tenant: rng.Int63n(int64(len(c.Tenants))),
		Cpu:    oneOf(rng, 1, 1, 2, 3, 4, 8, 16, 64),
		Mem:    oneOf(rng, 1, 2, 5, 10, 20, 50, 100, 300),
		Zone:   oneOf(rng, 0, 0, 0, 1, 2, 3),
		Apart:  oneOf(rng, 0, 0, 1, 2),
		Node:   randomNodeName(rng, c),
		Epoch:  oneOf(rng, 0, 1, 1, 2, 5, 1<<40-1, 1<<40),
	}
}

// anyCluster is right: a machine whose node may not hold it is on none, and one too many for its tenant goes.
func anyCluster(rng *rand.Rand) impl.Cluster {
	c := impl.Cluster{Over: oneOf(rng, 100, 101, 150, 200, 399, 400), Time: oneOf(rng, 0, 1, 29, 30, 31, 100, 100, 1<<40-40, 1<<40)}
	for range 1 + rng.Intn(8) {
		c.Tenants = append(c.Tenants, impl.Tenant{Cpu: oneOf(rng, 0, 10, 40, 100, 10000), Mem: oneOf(rng, 0, 50, 400, 1000, 10000), Bill: oneOf(rng, 0, 7, 1<<60-50, 1<<60)})
	}
	for n := range rng.Intn(13) {
		node := impl.Node{Name: fmt.Sprintf("n%c", 'a'+n), Cpu: oneOf(rng, 1, 2, 4, 8, 8, 16, 64), Mem: oneOf(rng, 1, 20, 50, 100, 100, 400, 1000), Zone: 1 + rng.Int63n(3)}
		node.Beat = max(0, c.Time-oneOf(rng, 0, 1, 5, 29, 30, 31, 32, 60))
		node.Fenced, node.Closed = rng.Intn(8) == 0, rng.Intn(8) == 0
		c.Nodes = append(c.Nodes, node)
	}
	vms := rng.Intn(31)
	for range 2 * vms {
		v := randomVm(rng, c)
		at, found := slices.BinarySearchFunc(c.Vms, v.Name, func(other impl.Vm, name string) int { return strings.Compare(other.Name, name) })
		if found || len(c.Vms) >= vms {
			continue
		}
		if nodeOf(c, v.Node).Name == "" {
			v.Node = ""
		}
		c.Vms = slices.Insert(c.Vms, at, v)
		if !plainClusterRight(c) {
			c.Vms[at].Node = ""
		}
		if !plainClusterRight(c) {
			c.Vms = slices.Delete(c.Vms, at, at+1)
		}
	}
	return c
}

func randomClusterOp(rng *rand.Rand, c impl.Cluster) impl.ClusterOp {
	op := impl.ClusterOp{Kind: oneOf(rng, 1, 1, 1, 2, 3, 3, 4, 4, 5, 5, 6, 7, 7, 8, 8, 0, 9), Name: randomVmName(rng), Node: randomNodeName(rng, c), Vm: randomVm(rng, c)}
	if len(c.Vms) > 0 && rng.Intn(5) > 0 {
		op.Name = c.Vms[rng.Intn(len(c.Vms))].Name
	}
	op.Time = c.Time + oneOf(rng, 0, 1, 1, 2, 5, 10, 29, 30, 31, 60, -1)
	if rng.Intn(12) == 0 {
		fields := []*int64{&op.Vm.Tenant, &op.Vm.Cpu, &op.Vm.Mem, &op.Vm.Zone, &op.Vm.Apart, &op.Kind, &op.Time}
		*fields[rng.Intn(len(fields))] = oneOf(rng, -1, 0, 20, 21, 64, 65, 1000, 1001, 1<<40, 1<<40+1, -1<<63, 1<<63-1)
	}
	return op
}

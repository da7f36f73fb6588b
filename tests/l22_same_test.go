package tests

import (
	"fmt"
	"math/rand"
	"slices"
	"sync"
	"testing"

	"loop.example/g00038/impl"
)

// checkStaysRight holds a cluster to what promise 45 says of who is where, without a call of the program.
func checkStaysRight(t *testing.T, what string, c impl.Cluster) {
	t.Helper()
	checkEqual(t, what+": right, said once more", plainClusterRight(c), true)
	cpu, mem := make([]int64, len(c.Tenants)), make([]int64, len(c.Tenants))
	names := map[string]bool{}
	for _, v := range c.Vms {
		cpu[v.Tenant] += v.Cpu
		mem[v.Tenant] += v.Mem
		if names[v.Name] {
			t.Errorf("%s: %s is there twice", what, v.Name)
		}
		names[v.Name] = true
		if v.Node != "" && nodeOf(c, v.Node).Name != v.Node {
			t.Errorf("%s: %s is on %q, which is no node", what, v.Name, v.Node)
		}
	}
	for number, k := range c.Tenants {
		if cpu[number] > k.Cpu || mem[number] > k.Mem {
			t.Errorf("%s: tenant %d has %d and %d of %d and %d", what, number, cpu[number], mem[number], k.Cpu, k.Mem)
		}
	}
}

// mayChangeNode tells whether an op is a cause for a machine to be on another node than it was: its own move, the drain of
// its node, the fence of its node in this tick, or, from no node, a tick.
func mayChangeNode(before impl.Cluster, op impl.ClusterOp, behind impl.Cluster, v impl.Vm) bool {
	switch op.Kind {
	case impl.ClMove:
		return v.Name == op.Name && v.Node != ""
	case impl.ClDrain:
		return v.Node == op.Node
	case impl.ClTick:
		old := v.Node
		return old == "" || !nodeOf(before, old).Fenced && nodeOf(behind, old).Fenced
	}
	return false
}

// checkWayOfVms holds each machine that was there ahead of an op to where it is behind it.
func checkWayOfVms(t *testing.T, what string, before impl.Cluster, op impl.ClusterOp, behind impl.Cluster) {
	t.Helper()
	for _, v := range before.Vms {
		now := vmOf(behind, v.Name)
		if now.Name == "" {
			checkEqual(t, what+": what took "+v.Name, op.Kind == impl.ClStop && op.Name == v.Name, true)
			continue
		}
		if now.Epoch < v.Epoch {
			t.Errorf("%s: %s has Epoch %d behind %d", what, v.Name, now.Epoch, v.Epoch)
		}
		if now.Node != v.Node && now.Node != "" {
			checkEqual(t, what+": a cause for "+v.Name, mayChangeNode(before, op, behind, v), true)
			n := nodeOf(behind, now.Node)
			checkEqual(t, what+": the node that it came to is open", n.Fenced || n.Closed, false)
		}
		if now.Node != v.Node && now.Node == "" {
			checkEqual(t, what+": its node is Fenced now", nodeOf(behind, v.Node).Fenced && !nodeOf(before, v.Node).Fenced, true)
		}
		epoch := v.Epoch
		if op.Kind == impl.ClTick && now.Node != "" && now.Node != v.Node {
			epoch = min(1<<40, epoch+1)
		}
		checkNumber(t, what+": Epoch of "+v.Name, now.Epoch, epoch)
	}
}

// clusterEvents are what an op met with.
func clusterEvents(before impl.Cluster, op impl.ClusterOp, out impl.ClusterOut, behind impl.Cluster) []string {
	events := []string{fmt.Sprintf("op %d code %d", min(max(op.Kind, 0), 9), out.Code)}
	if out.Code != impl.OK {
		return events
	}
	if len(out.Vms) > 1 {
		events = append(events, fmt.Sprintf("op %d several", op.Kind))
	}
	if op.Kind != impl.ClTick {
		return events
	}
	fences := len(fencedNames(behind)) - len(fencedNames(before))
	events = append(events, fmt.Sprintf("fences %d", min(fences, 2)))
	for _, v := range behind.Vms {
		old := vmOf(before, v.Name)
		events = append(events, fmt.Sprintf("was on a node %v is on one %v moved %v", old.Node != "", v.Node != "", old.Node != v.Node))
		if v.Epoch == 1<<40 && old.Node != v.Node && v.Node != "" {
			events = append(events, fmt.Sprintf("last Epoch, grew %v", v.Epoch != old.Epoch))
		}
	}
	for at, k := range behind.Tenants {
		if k.Bill == 1<<60 {
			events = append(events, fmt.Sprintf("last Bill, grew %v", k.Bill != before.Tenants[at].Bill))
		}
	}
	return events
}

func wantedClusterEvents() []string {
	return []string{
		"op 0 code 1", "op 9 code 1", "op 1 code 0", "op 1 code 1", "op 1 code 9", "op 1 code 7", "op 1 code 5", "op 2 code 0", "op 2 code 5",
		"op 3 code 0", "op 3 code 5", "op 3 code 6", "op 3 code 8", "op 4 code 0", "op 4 code 5", "op 4 code 6", "op 5 code 0", "op 5 code 1",
		"op 6 code 0", "op 6 code 5", "op 6 code 6", "op 7 code 0", "op 7 code 5", "op 7 code 6",
		"op 8 code 0", "op 8 code 2", "op 8 code 5", "op 8 code 6", "op 8 code 7", "op 8 code 8", "op 8 code 9",
		"op 3 several", "op 5 several", "op 6 several", "fences 0", "fences 1", "fences 2",
		"was on a node true is on one true moved false", "was on a node true is on one true moved true", "was on a node true is on one false moved true",
		"was on a node false is on one true moved true", "was on a node false is on one false moved false",
		"last Epoch, grew true", "last Epoch, grew false", "last Bill, grew true", "last Bill, grew false",
	}
}

func TestP45ARightClusterStaysRight(t *testing.T) {
	rng := rand.New(rand.NewSource(2245))
	events := map[string]int{}
	for n := range 2500 {
		c := anyCluster(rng)
		for k := range 40 {
			op := randomClusterOp(rng, c)
			what := fmt.Sprintf("cluster %d, op %d %+v", n, k, op)
			run := checkClusterRun(t, what, c, []impl.ClusterOp{op})
			checkNumber(t, what+": ClusterFault", impl.ClusterFault(run.Cluster), impl.OK)
			checkStaysRight(t, what, run.Cluster)
			checkWayOfVms(t, what, c, op, run.Cluster)
			if t.Failed() {
				return
			}
			for _, event := range clusterEvents(c, op, run.Outs[0], run.Cluster) {
				events[event]++
			}
			c = run.Cluster
		}
	}
	for _, event := range wantedClusterEvents() {
		if events[event] < 20 {
			t.Errorf("%s: %d times", event, events[event])
		}
	}
}

// Who is on a node that is open may be there, as MayHold tells; ready nodes count, too.
func TestP45WhoIsOnANodeMayBeThere(t *testing.T) {
	rng := rand.New(rand.NewSource(2246))
	asked := 0
	for n := range 800 {
		c := anyCluster(rng)
		var ops []impl.ClusterOp
		for range 30 {
			ops = append(ops, randomClusterOp(rng, c))
		}
		c = checkClusterRun(t, fmt.Sprintf("cluster %d", n), c, ops).Cluster
		for at := range c.Nodes {
			c.Nodes[at].Fenced, c.Nodes[at].Closed = false, false
		}
		for _, v := range c.Vms {
			if v.Node != "" {
				asked++
				checkNumber(t, fmt.Sprintf("cluster %d: %s on %s", n, v.Name, v.Node), impl.MayHold(c, v.Node, v), impl.OK)
			}
		}
	}
	if asked < 1000 {
		t.Errorf("%d were asked for", asked)
	}
}

// checkDrained holds a drain to all or nothing, without asking where each machine should have gone.
func checkDrained(t *testing.T, what string, c impl.Cluster, node string) (moved int, refused bool) {
	t.Helper()
	run := checkClusterRun(t, what, c, []impl.ClusterOp{clDrain(node)})
	var on []string
	want := copyCluster(c)
	for at, v := range c.Vms {
		if v.Node == node {
			on = append(on, v.Name)
			want.Vms[at].Node = vmOf(run.Cluster, v.Name).Node
			checkEqual(t, what+": "+v.Name+" is elsewhere", want.Vms[at].Node == node || want.Vms[at].Node == "", run.Outs[0].Code != impl.OK)
		}
	}
	if run.Outs[0].Code != impl.OK {
		checkCluster(t, what+": nothing happened", run.Cluster, c)
		return 0, run.Outs[0].Code == impl.ErrLimit
	}
	for at, n := range want.Nodes {
		want.Nodes[at].Closed = n.Closed || n.Name == node
	}
	checkCluster(t, what+": no more than that happened", run.Cluster, want)
	checkClusterOuts(t, what, run.Outs, []impl.ClusterOut{atNode(node, on...)})
	return len(on), false
}

func TestP46DrainingMovesAllOrChangesNothing(t *testing.T) {
	rng := rand.New(rand.NewSource(2247))
	several, refused := 0, 0
	for n := range 3000 {
		c := anyCluster(rng)
		for _, node := range c.Nodes {
			moved, wasRefused := checkDrained(t, fmt.Sprintf("cluster %d, node %s", n, node.Name), c, node.Name)
			if moved > 1 {
				several++
			}
			if wasRefused {
				refused++
			}
		}
		if t.Failed() {
			return
		}
	}
	if several < 300 || refused < 300 {
		t.Errorf("%d moved several, %d were refused", several, refused)
	}
}

// Long runs in one call are as the plain one's, too.
func TestRunClusterOfLongRuns(t *testing.T) {
	rng := rand.New(rand.NewSource(2248))
	for n := range 60 {
		c := anyCluster(rng)
		c.Time = min(c.Time, 100)
		for at, node := range c.Nodes {
			c.Nodes[at].Beat = min(node.Beat, c.Time)
		}
		var ops []impl.ClusterOp
		time := c.Time
		for range 1000 {
			op := randomClusterOp(rng, c)
			op.Time = max(0, time+oneOf(rng, 0, 1, 1, 2, 5, -1))
			if op.Kind == impl.ClTick {
				time = max(time, op.Time)
			}
			if rng.Intn(3) == 0 {
				op.Kind = impl.ClBeat
			}
			ops = append(ops, op)
		}
		run := checkClusterRun(t, fmt.Sprintf("run %d", n), c, ops)
		checkNumber(t, "ClusterFault behind it", impl.ClusterFault(run.Cluster), impl.OK)
	}
}

// What is told hangs on nothing but what was handed in, also where several ask at once.
func TestRunClusterAnswersAlikeAtOnce(t *testing.T) {
	rng := rand.New(rand.NewSource(2249))
	for n := range 40 {
		c := anyCluster(rng)
		var ops []impl.ClusterOp
		for range 30 {
			ops = append(ops, randomClusterOp(rng, c))
		}
		want := plainClusterRun(c, ops)
		runs := make([]impl.ClusterRun, 8)
		var all sync.WaitGroup
		for at := range runs {
			all.Go(func() { runs[at] = impl.RunCluster(c, slices.Clone(ops)) })
		}
		all.Wait()
		for _, run := range runs {
			checkClusterOuts(t, fmt.Sprintf("run %d", n), run.Outs, want.Outs)
			checkCluster(t, fmt.Sprintf("run %d", n), run.Cluster, want.Cluster)
		}
	}
}

package tests

import (
	"fmt"
	"math/rand"
	"testing"

	"loop.example/g00038/impl"
)

// drainableManager has, as the cluster has it, a node d with p, r and s, of which c takes r, and e takes p and s.
func drainableManager() impl.Manager { return freshManager(drainable()) }

func workOn(number int64, node string, left ...string) impl.ManJob {
	return impl.ManJob{Number: number, Node: node, Left: left}
}

func jobIn(state int64, done int64, job impl.ManJob) impl.ManJob {
	job.State, job.Done = state, done
	return job
}

// stepped asks for as many steps, with ids from first on.
func stepped(t *testing.T, what string, g impl.Manager, first int64, count int64) impl.Manager {
	t.Helper()
	var said []string
	for n := range count {
		said = append(said, fmt.Sprintf("V2 %d step", first+n), fmt.Sprintf("%d ok", first+n))
	}
	return checkAsks(t, what, g, said...)
}

func TestADrainStepByStep(t *testing.T) {
	g := checkAsks(t, "drain", drainableManager(), "V2 1 drain d", "1 ok 1", "V2 2 job 1", "2 ok 0 0 3")
	checkManJobs(t, "drain", g.Jobs, workOn(1, "d", "p", "r", "s"))
	checkNumber(t, "Next", g.Next, 2)
	checkCluster(t, "no more than Closed", g.Cluster, changedCluster(drainable(), func(c *impl.Cluster) { c.Nodes[1].Closed = true }))
	for at, want := range []struct {
		job   impl.ManJob
		where string
		told  string
	}{
		{jobIn(0, 1, workOn(1, "d", "r", "s")), "p:e:4 q:c:2 r:d:5 s:d:6 ", "9 ok 0 1 2"},
		{jobIn(0, 2, workOn(1, "d", "s")), "p:e:4 q:c:2 r:c:5 s:d:6 ", "9 ok 0 2 1"},
		{jobIn(1, 3, workOn(1, "d")), "p:e:4 q:c:2 r:c:5 s:e:6 ", "9 ok 1 3 0"},
		{jobIn(1, 3, workOn(1, "d")), "p:e:4 q:c:2 r:c:5 s:e:6 ", "9 ok 1 3 0"},
	} {
		what := fmt.Sprintf("step %d", at+1)
		g = stepped(t, what, g, int64(10+at), 1)
		checkManJobs(t, what, g.Jobs, want.job)
		checkText(t, what, nodesOfVms(g.Cluster), want.where)
		checkNoChange(t, what, g, "V2 9 job 1", want.told)
		checkEqual(t, what+": Closed", nodeOf(g.Cluster, "d").Closed, true)
	}
}

// All at once by chapter 23, or one by one: where nothing comes between, it comes to the same.
func TestADrainComesToWhatClDrainComesTo(t *testing.T) {
	rng := rand.New(rand.NewSource(2361))
	moved, refused := 0, 0
	for n := range 1500 {
		c := anyCluster(rng)
		if len(c.Nodes) == 0 {
			continue
		}
		node := c.Nodes[rng.Intn(len(c.Nodes))]
		if node.Fenced || node.Closed {
			continue
		}
		what := fmt.Sprintf("cluster %d, node %s", n, node.Name)
		g := checkAsks(t, what, freshManager(c), "V2 1 drain "+node.Name, "1 ok 1")
		count := int64(len(g.Jobs[0].Left))
		g = stepped(t, what, g, 2, 31)
		all := impl.RunCluster(c, []impl.ClusterOp{clDrain(node.Name)})
		if all.Outs[0].Code == impl.OK {
			moved++
			checkCluster(t, what, g.Cluster, all.Cluster)
			checkManJobs(t, what, g.Jobs, jobIn(1, count, workOn(1, node.Name)))
			continue
		}
		refused++
		checkNumber(t, what+": State", g.Jobs[0].State, 2)
		checkNumber(t, what+": Done and Left", g.Jobs[0].Done+int64(len(g.Jobs[0].Left)), count)
		checkNames(t, what+": Left", g.Jobs[0].Left, namesOn(g.Cluster, node.Name))
		checkEqual(t, what+": Closed", nodeOf(g.Cluster, node.Name).Closed, true)
	}
	if moved < 200 || refused < 100 {
		t.Errorf("%d were moved, %d refused", moved, refused)
	}
}

func namesOn(c impl.Cluster, node string) []string {
	var names []string
	for _, v := range c.Vms {
		if v.Node == node {
			names = append(names, v.Name)
		}
	}
	return names
}

func TestDrainAsksWithCodes(t *testing.T) {
	full := changedManager(sampleManager(), func(g *impl.Manager) { g.Jobs, g.Next = someManJobs(20), 21 })
	last := changedManager(sampleManager(), func(g *impl.Manager) { g.Next = 1 << 40 })
	work := changedManager(sampleManager(), func(g *impl.Manager) { g.Jobs[0].Node = "a1" })
	for _, s := range []struct {
		what  string
		g     impl.Manager
		ask   string
		reply string
	}{
		{"no such node", sampleManager(), "drain zz", "1 error 5"}, {"a machine's name", sampleManager(), "drain db1", "1 error 5"},
		{"Closed, with a job at work", sampleManager(), "drain b2", "1 error 6"}, {"Fenced", sampleManager(), "drain c1", "1 error 6"},
		{"Closed, with no job", freshManager(sampleCluster()), "drain b2", "1 error 6"}, {"open, with a job at work", work, "drain a1", "1 error 6"},
		{"20 jobs", full, "drain a1", "1 error 4"}, {"Next 2^40", last, "drain a1", "1 error 4"},
		{"20 jobs, and no such node", full, "drain zz", "1 error 5"}, {"20 jobs, and Closed", full, "drain b2", "1 error 6"}, {"20 jobs, and Fenced", full, "drain c1", "1 error 6"},
		{"Next 2^40, and no such node", last, "drain zz", "1 error 5"}, {"Next 2^40, and Closed", last, "drain b2", "1 error 6"},
		{"no node at all", freshManager(impl.Cluster{Tenants: []impl.Tenant{{}}, Over: 100}), "drain a1", "1 error 5"},
	} {
		g := checkAsks(t, s.what, s.g, "V2 1 "+s.ask, s.reply)
		checkManager(t, s.what+": nothing happened but that it is kept", g, changedManager(s.g, func(g *impl.Manager) {
			g.Kept = append(g.Kept, answersOf("V2 1 "+s.ask, s.reply)...)
		}))
	}
}

// A job at work alone stands in the way: one that is done, over or cancelled does not, and neither does one of another node.
func TestDrainOfANodeThatHadAJob(t *testing.T) {
	for state := range int64(4) {
		g := changedManager(sampleManager(), func(g *impl.Manager) { g.Jobs[1].State = state })
		reply := "1 ok 12"
		if state == 0 {
			reply = "1 error 6"
		}
		checkAsks(t, fmt.Sprintf("State %d", state), g, "V2 1 drain a1", reply)
		checkAsks(t, fmt.Sprintf("State %d, another node", state), g, "V2 1 drain a2", "1 ok 12")
	}
	// By fence and ready a node is open again while its job is at work still, up to the step that ends that.
	g := checkAsks(t, "open again", drainableManager(),
		"V2 1 drain d", "1 ok 1", "V2 2 fence d", "2 ok 3", "V2 3 drain d", "3 error 6", "V2 4 ready d", "4 ok", "V2 5 drain d", "5 error 6",
		"V2 6 step", "6 ok", "V2 7 drain d", "7 error 6", "V2 8 step", "8 ok", "V2 9 step", "9 ok", "V2 10 job 1", "10 ok 1 3 0", "V2 11 drain d", "11 ok 2", "V2 12 drain d", "12 error 6",
	)
	checkManJobs(t, "open again", g.Jobs, jobIn(1, 3, workOn(1, "d")), workOn(2, "d"))
}

func TestDrainsUpTo20AndTheLastNumber(t *testing.T) {
	g := changedManager(sampleManager(), func(g *impl.Manager) { g.Jobs, g.Next = someManJobs(19), 1<<40-1 })
	g = checkAsks(t, "the 20th", g, "V2 1 drain a1", "1 ok 1099511627775", "V2 2 drain a2", "2 error 4", "V2 3 job 1099511627775", "3 ok 0 0 1", "V2 4 job 1099511627776", "4 error 5")
	checkNumber(t, "Next", g.Next, 1<<40)
	checkEqual(t, "a2 is open still", nodeOf(g.Cluster, "a2").Closed, false)
	few := changedManager(sampleManager(), func(g *impl.Manager) { g.Next = 1<<40 - 2 })
	few = checkAsks(t, "the last numbers", few, "V2 1 drain a1", "1 ok 1099511627774", "V2 2 drain a2", "2 ok 1099511627775", "V2 3 drain b1", "3 error 4")
	checkNumber(t, "how many", int64(len(few.Jobs)), 6)
	many := freshManager(changedCluster(sampleCluster(), func(c *impl.Cluster) { c.Vms, c.Nodes = nil, manyNodes(12) }))
	for n := range int64(20) {
		node := manyNodes(12)[n%12].Name
		many = checkAsks(t, fmt.Sprint("job ", n+1), many, fmt.Sprintf("V2 %d drain %s", 100+n, node), fmt.Sprintf("%d ok %d", 100+n, n+1), fmt.Sprintf("V2 %d step", 200+n), fmt.Sprintf("%d ok", 200+n), fmt.Sprintf("V2 %d ready %s", 300+n, node), fmt.Sprintf("%d ok", 300+n))
	}
	checkAsks(t, "one more", many, "V2 1 drain n0000", "1 error 4")
}

// A job that begins with nothing left is done by its first step, and no earlier.
func TestAJobWithNothingLeft(t *testing.T) {
	g := checkAsks(t, "nobody there", drainableManager(), "V2 1 drain f", "1 ok 1", "V2 2 job 1", "2 ok 0 0 0", "V2 3 drain f", "3 error 6")
	checkManJobs(t, "nobody there", g.Jobs, workOn(1, "f"))
	g = stepped(t, "a step", g, 10, 1)
	checkManJobs(t, "a step", g.Jobs, jobIn(1, 0, workOn(1, "f")))
	g = stepped(t, "one more", g, 20, 1)
	checkManJobs(t, "one more", g.Jobs, jobIn(1, 0, workOn(1, "f")))
	cancelled := checkAsks(t, "cancelled ahead of it", drainableManager(), "V2 1 drain f", "1 ok 1", "V2 2 cancel 1", "2 ok", "V2 3 step", "3 ok", "V2 4 job 1", "4 ok 3 0 0")
	checkManJobs(t, "cancelled ahead of it", cancelled.Jobs, jobIn(3, 0, workOn(1, "f")))
	old := changedManager(drainableManager(), func(g *impl.Manager) { g.Jobs, g.Next = []impl.ManJob{jobIn(0, 7, workOn(3, "nowhere"))}, 9 })
	checkManJobs(t, "of no such node", stepped(t, "of no such node", old, 1, 1).Jobs, jobIn(1, 7, workOn(3, "nowhere")))
}

// Where the first of Left has no node the job is over, as it is, and does no more.
func TestAJobThatIsOver(t *testing.T) {
	tight := freshManager(changedCluster(drainable(), func(c *impl.Cluster) { c.Vms[3].Mem = 16 }))
	g := checkAsks(t, "tight", tight, "V2 1 drain d", "1 ok 1")
	g = stepped(t, "two", g, 10, 2)
	checkManJobs(t, "two", g.Jobs, jobIn(0, 2, workOn(1, "d", "s")))
	before := g
	g = stepped(t, "the third", g, 20, 1)
	checkManJobs(t, "the third", g.Jobs, jobIn(2, 2, workOn(1, "d", "s")))
	checkCluster(t, "the third", g.Cluster, before.Cluster)
	checkNoChange(t, "told", g, "V2 30 job 1", "30 ok 2 2 1")
	// Room that comes later is of no use to it; what is left may be drained anew, once the node was open.
	g = checkAsks(t, "room", g, "V1 31 stop p", "31 ok", "V2 32 step", "32 ok", "V2 33 job 1", "33 ok 2 2 1", "V2 34 cancel 1", "34 error 6", "V2 35 drain d", "35 error 6", "V1 36 move s e", "36 ok", "V1 37 ready d", "37 ok", "V2 38 drain d", "38 ok 2", "V2 39 step", "39 ok", "V2 40 job 2", "40 ok 1 0 0")
	checkManJobs(t, "room", g.Jobs, jobIn(2, 2, workOn(1, "d", "s")), jobIn(1, 0, workOn(2, "d")))
	first := freshManager(changedCluster(drainable(), func(c *impl.Cluster) { c.Vms[0].Mem = 31 }))
	g = stepped(t, "the first one", checkAsks(t, "the first one", first, "V2 1 drain d", "1 ok 1"), 10, 3)
	checkManJobs(t, "the first one", g.Jobs, jobIn(2, 0, workOn(1, "d", "p", "r", "s")))
}

// Who is gone, elsewhere or on no node is passed over, and counts as done.
func TestStepsOverWhoIsGoneOrElsewhere(t *testing.T) {
	for what, ask := range map[string]string{"gone": "stop p", "elsewhere": "move p e", "on no node": "fence d"} {
		g := checkAsks(t, what, drainableManager(), "V2 1 drain d", "1 ok 1")
		told := map[string]string{"fence d": "2 ok 3"}[ask]
		if told == "" {
			told = "2 ok"
		}
		g = checkAsks(t, what, g, "V1 2 "+ask, told)
		before := g
		g = stepped(t, what, g, 10, 1)
		checkManJobs(t, what, g.Jobs, jobIn(0, 1, workOn(1, "d", "r", "s")))
		checkCluster(t, what+": nobody moved", g.Cluster, before.Cluster)
		g = stepped(t, what, g, 20, 2)
		checkManJobs(t, what, g.Jobs, jobIn(1, 3, workOn(1, "d")))
	}
	// Also where there is room for nobody: who is not there needs none.
	none := changedManager(drainableManager(), func(g *impl.Manager) {
		for at := range g.Cluster.Nodes {
			g.Cluster.Nodes[at].Closed = true
		}
		g.Jobs, g.Next = []impl.ManJob{workOn(1, "d", "zz", "q", "p", "r")}, 2
	})
	g := stepped(t, "no room", none, 1, 5)
	checkManJobs(t, "no room", g.Jobs, jobIn(2, 2, workOn(1, "d", "p", "r")))
	checkCluster(t, "no room", g.Cluster, none.Cluster)
	// A node of another name that there is not has nobody, and neither has what one on no node is on.
	nowhere := changedManager(drainableManager(), func(g *impl.Manager) {
		g.Cluster.Vms[0].Node = ""
		g.Jobs, g.Next = []impl.ManJob{workOn(1, "nowhere", "p", "q", "r")}, 2
	})
	g = stepped(t, "nowhere", nowhere, 1, 3)
	checkManJobs(t, "nowhere", g.Jobs, jobIn(1, 3, workOn(1, "nowhere")))
	checkCluster(t, "nowhere", g.Cluster, nowhere.Cluster)
}

// A name may stand in Left twice: the second time it is elsewhere.
func TestStepsOverANameThatIsLeftTwice(t *testing.T) {
	twice := changedManager(drainableManager(), func(g *impl.Manager) { g.Jobs, g.Next = []impl.ManJob{workOn(1, "d", "s", "s", "p")}, 2 })
	twice.Cluster.Nodes[1].Closed = true
	g := stepped(t, "twice", twice, 1, 2)
	checkManJobs(t, "twice", g.Jobs, jobIn(0, 2, workOn(1, "d", "p")))
	checkText(t, "twice", nodesOfVms(g.Cluster), "p:d:4 q:c:2 r:d:5 s:e:6 ")
}

// Where the node is open again the best one for a machine may be that very node: it stays, and is left no more.
func TestStepsToTheNodeItself(t *testing.T) {
	g := checkAsks(t, "open again", drainableManager(),
		"V2 1 drain d", "1 ok 1", "V1 2 fence d", "2 ok 3", "V1 3 ready d", "3 ok", "V1 4 tick 0", "4 ok 3", "V2 5 step", "5 ok",
	)
	checkText(t, "open again", nodesOfVms(g.Cluster), "p:d:5 q:c:2 r:d:6 s:d:7 ")
	checkManJobs(t, "open again", g.Jobs, jobIn(0, 1, workOn(1, "d", "r", "s")))
	// Where another one has more left it goes there, though its own is open.
	open := changedManager(drainableManager(), func(g *impl.Manager) {
		g.Jobs, g.Next = []impl.ManJob{workOn(1, "e", "s")}, 2
		g.Cluster.Vms[3].Node = "e"
	})
	g = stepped(t, "to another one", open, 1, 1)
	checkText(t, "to another one", nodesOfVms(g.Cluster), "p:d:4 q:c:2 r:d:5 s:d:6 ")
	checkManJobs(t, "to another one", g.Jobs, jobIn(1, 1, workOn(1, "e")))
}

func TestDoneAtItsGreatest(t *testing.T) {
	for done, behind := range map[int64]int64{0: 2, 5: 7, 1<<40 - 3: 1<<40 - 1, 1<<40 - 2: 1 << 40, 1<<40 - 1: 1 << 40, 1 << 40: 1 << 40} {
		g := changedManager(drainableManager(), func(g *impl.Manager) {
			g.Jobs, g.Next = []impl.ManJob{jobIn(0, done, workOn(1, "d", "gone", "p", "r"))}, 2
			g.Cluster.Nodes[1].Closed = true
		})
		g = stepped(t, fmt.Sprint(done), g, 1, 2)
		checkManJobs(t, fmt.Sprint(done), g.Jobs, jobIn(0, behind, workOn(1, "d", "r")))
	}
}

// A step does one machine of each job at work, in order, and what one job did counts for the next.
func TestAStepWithSeveralJobs(t *testing.T) {
	g := checkAsks(t, "several", drainableManager(), "V2 1 drain d", "1 ok 1", "V2 2 drain c", "2 ok 2", "V2 3 step", "3 ok")
	// p goes to e, and q, from c, to e or f: e has 15 left then, f 10.
	checkText(t, "several", nodesOfVms(g.Cluster), "p:e:4 q:e:2 r:d:5 s:d:6 ")
	checkManJobs(t, "several", g.Jobs, jobIn(0, 1, workOn(1, "d", "r", "s")), jobIn(1, 1, workOn(2, "c")))
	g = stepped(t, "the second", g, 10, 1)
	checkText(t, "the second", nodesOfVms(g.Cluster), "p:e:4 q:e:2 r:f:5 s:d:6 ")
	g = stepped(t, "the third", g, 20, 1)
	checkManJobs(t, "the third", g.Jobs, jobIn(2, 2, workOn(1, "d", "s")), jobIn(1, 1, workOn(2, "c")))
	// Two that want the same room: the first in order gets it, whatever its node and machine are called.
	c := impl.Cluster{
		Nodes:   []impl.Node{{Name: "a", Cpu: 4, Mem: 10, Zone: 1, Closed: true}, {Name: "b", Cpu: 4, Mem: 10, Zone: 1, Closed: true}, {Name: "c", Cpu: 4, Mem: 10, Zone: 1}},
		Vms:     []impl.Vm{{Name: "x", Cpu: 1, Mem: 6, Node: "a"}, {Name: "y", Cpu: 1, Mem: 6, Node: "b"}},
		Tenants: []impl.Tenant{{Cpu: 9, Mem: 99}}, Over: 100,
	}
	for _, s := range []struct{ first, firstVm, second, secondVm, where string }{{"a", "x", "b", "y", "x:c:0 y:b:0 "}, {"b", "y", "a", "x", "x:a:0 y:c:0 "}} {
		two := impl.Manager{Cluster: c, Jobs: []impl.ManJob{workOn(1, s.first, s.firstVm), workOn(2, s.second, s.secondVm)}, Next: 3}
		two = stepped(t, s.where, two, 1, 1)
		checkText(t, "the same room", nodesOfVms(two.Cluster), s.where)
		checkManJobs(t, "the same room", two.Jobs, jobIn(1, 1, workOn(1, s.first)), jobIn(2, 0, workOn(2, s.second, s.secondVm)))
	}
	// Jobs that are not at work are left alone, and those at work are each done, the last one, too.
	rest := changedManager(sampleManager(), func(g *impl.Manager) {
		g.Jobs = append(g.Jobs, workOn(10, "a1", "db1", "idle"), workOn(11, "zz"))
		g.Cluster.Nodes[0].Closed = true
	})
	rest = stepped(t, "the rest", rest, 1, 1)
	want := sampleManager().Jobs
	want[0] = jobIn(1, 1, workOn(1, "b2"))
	checkManJobs(t, "the rest", rest.Jobs, append(want, jobIn(0, 1, workOn(10, "a1", "idle")), jobIn(1, 0, workOn(11, "zz")))...)
	checkText(t, "the rest", vmOf(rest.Cluster, "db1").Node, "b1")
	checkAsks(t, "no job", drainableManager(), "V2 1 step", "1 ok")
}

func TestJobAndCancelInEachState(t *testing.T) {
	g := sampleManager()
	checkNoChange(t, "job", g,
		"V2 1 job 1", "1 ok 0 0 1", "V2 1 job 3", "1 ok 1 2 0", "V2 1 job 4", "1 ok 2 1 2", "V2 1 job 9", "1 ok 3 0 0",
		"V2 1 job 0", "1 error 5", "V2 1 job 2", "1 error 5", "V2 1 job 5", "1 error 5", "V2 1 job 11", "1 error 5", "V2 1 job 12", "1 error 5", "V2 1 job 9999999999999", "1 error 5",
	)
	far := changedManager(g, func(g *impl.Manager) { g.Jobs[1].Done, g.Jobs[1].Left = 1<<40, numbered("v", 30) })
	checkNoChange(t, "the most", far, "V2 1 job 3", "1 ok 1 1099511627776 30")
	for number, reply := range map[int64]string{1: "8 ok", 3: "8 error 6", 4: "8 error 6", 9: "8 error 6", 0: "8 error 5", 2: "8 error 5", 12: "8 error 5"} {
		line := fmt.Sprint("V2 8 cancel ", number)
		behind := checkAsks(t, line, g, line, reply)
		want := changedManager(g, func(g *impl.Manager) {
			g.Kept = append(g.Kept, answersOf(line, reply)...)
			if number == 1 {
				g.Jobs[0].State, g.Jobs[0].Left = 3, nil
			}
		})
		checkManager(t, line, behind, want)
		checkEqual(t, line+": b2 is Closed still", nodeOf(behind.Cluster, "b2").Closed, true)
	}
	none := drainableManager()
	checkAsks(t, "no job", none, "V2 1 job 1", "1 error 5", "V2 2 cancel 1", "2 error 5")
}

// What was done of a job that is cancelled stays done, its node stays Closed until it is made ready.
func TestAJobThatIsCancelled(t *testing.T) {
	g := checkAsks(t, "in the middle", drainableManager(), "V2 1 drain d", "1 ok 1", "V2 2 step", "2 ok", "V2 3 cancel 1", "3 ok", "V2 4 job 1", "4 ok 3 1 0", "V2 5 step", "5 ok", "V2 6 cancel 1", "6 error 6")
	checkManJobs(t, "in the middle", g.Jobs, jobIn(3, 1, workOn(1, "d")))
	checkText(t, "in the middle", nodesOfVms(g.Cluster), "p:e:4 q:c:2 r:d:5 s:d:6 ")
	checkEqual(t, "Closed", nodeOf(g.Cluster, "d").Closed, true)
	checkAsks(t, "behind it", g, "V2 10 drain d", "10 error 6", "V1 11 ready d", "11 error 6", "V1 12 place x tenant=0 cpu=1 mem=16 zone=0 apart=0", "12 error 5", "V1 13 fence d", "13 ok 2", "V1 14 ready d", "14 ok", "V2 15 drain d", "15 ok 2")
}

// Numbers of jobs go on from Next, whatever came before.
func TestNumbersOfJobs(t *testing.T) {
	g := checkAsks(t, "from 12 on", sampleManager(), "V2 1 drain a1", "1 ok 12", "V2 2 drain zz", "2 error 5", "V2 3 drain a2", "3 ok 13", "V2 4 job 12", "4 ok 0 0 1", "V2 5 job 13", "5 ok 0 0 1", "V2 6 cancel 12", "6 ok", "V2 7 drain b1", "7 ok 14")
	checkManJobs(t, "from 12 on", g.Jobs[4:], jobIn(3, 0, workOn(12, "a1")), workOn(13, "a2", "db2"), workOn(14, "b1", "web"))
	checkNumber(t, "Next", g.Next, 15)
}

// All machines of a node are in Left, by name, also those that came by a move, and no other.
func TestLeftOfADrain(t *testing.T) {
	g := checkAsks(t, "by name", drainableManager(), "V1 1 move q d", "1 ok", "V1 2 place m tenant=0 cpu=1 mem=50 zone=0 apart=0", "2 ok d", "V1 3 stop r", "3 ok", "V2 4 drain d", "4 ok 1", "V2 5 drain e", "5 ok 2")
	checkManJobs(t, "by name", g.Jobs, workOn(1, "d", "m", "p", "q", "s"), workOn(2, "e"))
	most := freshManager(impl.Cluster{Nodes: []impl.Node{{Name: "n", Cpu: 64, Mem: 1000, Zone: 1}}, Vms: manyVms(30), Tenants: []impl.Tenant{{}, {Cpu: 64, Mem: 1000}}, Over: 400})
	for at := range most.Cluster.Vms {
		most.Cluster.Vms[at].Node = "n"
	}
	most = checkAsks(t, "as many as may be", most, "V2 1 drain n", "1 ok 1", "V2 2 job 1", "2 ok 0 0 30", "V2 3 step", "3 ok", "V2 4 job 1", "4 ok 2 0 30")
	checkNames(t, "as many as may be", most.Jobs[0].Left, numbered("v", 30))
}

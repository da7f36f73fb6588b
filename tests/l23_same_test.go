package tests

import (
	"fmt"
	"math/rand"
	"strings"
	"testing"

	"loop.example/g00038/impl"
)

// replyOf is what an ask is replied to an op's answer, by the words of chapter 24.
func replyOf(id int64, kind int64, out impl.ClusterOut) string {
	reply := fmt.Sprint(id, " ok")
	switch {
	case out.Code != impl.OK:
		reply = fmt.Sprint(id, " error ", out.Code)
	case kind == impl.ClPlace:
		reply += " " + out.Node
	case kind == impl.ClTick || kind == impl.ClFence:
		reply += fmt.Sprint(" ", len(out.Vms))
	}
	return reply
}

// checkSameAsOps holds asks of V1 to the ops of chapter 23, as the program does these.
func checkSameAsOps(t *testing.T, what string, c impl.Cluster, ops []impl.ClusterOp) impl.ClusterRun {
	t.Helper()
	var lines []string
	var asked []impl.ClusterOp
	for _, op := range ops {
		line := askOf(op, int64(len(lines))+1)
		if line != "" {
			lines, asked = append(lines, line), append(asked, op)
		}
	}
	want := impl.RunCluster(c, asked)
	got := checkManagerRun(t, what, freshManager(c), lines)
	var replies []string
	for at, op := range asked {
		replies = append(replies, replyOf(int64(at)+1, op.Kind, want.Outs[at]))
	}
	checkNames(t, what+": what is told", got.Replies, replies)
	checkCluster(t, what+": the cluster", got.Manager.Cluster, want.Cluster)
	checkManJobs(t, what+": no job", got.Manager.Jobs)
	return want
}

func TestP55AsksOfV1DoWhatOpsDo(t *testing.T) {
	rng := rand.New(rand.NewSource(2355))
	told := map[string]int{}
	for n := range 2500 {
		c := anyCluster(rng)
		var ops []impl.ClusterOp
		time := c.Time
		for range 30 {
			op := randomClusterOp(rng, c)
			if op.Kind == impl.ClTick {
				op.Time = max(0, time+oneOf(rng, 0, 1, 2, 5, 10, 31, -1))
				time = max(time, op.Time)
			}
			ops = append(ops, op)
		}
		run := checkSameAsOps(t, fmt.Sprintf("cluster %d", n), c, ops)
		at := 0
		for _, op := range ops {
			if askOf(op, 1) != "" {
				told[fmt.Sprint(op.Kind, " ", run.Outs[at].Code)]++
				at++
			}
		}
		if t.Failed() {
			return
		}
	}
	for _, event := range []string{
		"1 0", "1 5", "1 7", "1 9", "2 0", "2 5", "4 0", "4 5", "4 6", "5 0", "5 1", "6 0", "6 5", "6 6", "7 0", "7 5", "7 6",
		"8 0", "8 2", "8 5", "8 6", "8 7", "8 8", "8 9",
	} {
		if told[event] < 20 {
			t.Errorf("op and code %s: %d times", event, told[event])
		}
	}
}

// Each kind of op with each of its codes, at the sample.
func TestP55EachKindOfOp(t *testing.T) {
	names := append(vmNames(sampleCluster()), "zz", "small")
	nodes := []string{"a1", "a2", "b1", "b2", "c1", "zz"}
	bare := changedCluster(sampleCluster(), func(c *impl.Cluster) { c.Vms = nil })
	for what, c := range map[string]impl.Cluster{"the sample": sampleCluster(), "without machines": bare, "drainable": drainable()} {
		for _, name := range names {
			checkSameAsOps(t, what+": stop "+name, c, []impl.ClusterOp{clStop(name)})
			for _, node := range nodes {
				checkSameAsOps(t, what+": move "+name+" "+node, c, []impl.ClusterOp{clMove(name, node)})
			}
			for _, v := range []impl.Vm{{Cpu: 1, Mem: 1}, {Tenant: 7, Cpu: 1, Mem: 1}, {Cpu: 64, Mem: 1000}, {Cpu: 1, Mem: 1, Zone: 3}, {Cpu: 1, Mem: 1, Zone: 2, Apart: 1}} {
				v.Name = name
				checkSameAsOps(t, what+": place "+name, c, []impl.ClusterOp{clPlace(v)})
			}
		}
		for _, node := range nodes {
			checkSameAsOps(t, what+": "+node, c, []impl.ClusterOp{clBeat(node), clFence(node), clReady(node), clBeat(node), clTick(1), clTick(131)})
		}
		for _, time := range []int64{0, 99, 100, 101, 111, 121, 126, 131, 1 << 40, 1<<40 + 1, 9999999999999} {
			checkSameAsOps(t, fmt.Sprint(what, ": tick ", time), c, []impl.ClusterOp{clTick(time), clTick(time)})
		}
	}
}

// managerEvents are what a line met with.
func managerEvents(before impl.Manager, line string, reply string, behind impl.Manager) []string {
	words := append(strings.Fields(line), "", "", "")
	told := append(strings.Fields(reply), "", "", "")
	if told[1] == "syntax" || told[1] == "version" || told[1] == "kept" {
		return []string{told[1]}
	}
	for _, a := range before.Kept {
		if fmt.Sprint(a.Id) == words[1] && a.Ask != line {
			return []string{"another line of an id that is kept"}
		}
	}
	events := []string{words[2] + " " + told[1]}
	if told[1] == "error" {
		events[0] += " " + told[2]
	}
	if len(before.Kept) == 20 && len(behind.Kept) == 20 && before.Kept[0] != behind.Kept[0] {
		events = append(events, "the oldest goes")
	}
	for at, job := range before.Jobs {
		now := behind.Jobs[at]
		if now.State != job.State {
			events = append(events, fmt.Sprintf("%s: State %d, some left %v", words[2], now.State, len(now.Left) > 0))
		}
		if now.Done != job.Done {
			place := vmOf(before.Cluster, job.Left[0]).Node
			events = append(events, fmt.Sprintf("passed, was there %v, is elsewhere %v", place == job.Node, vmOf(behind.Cluster, job.Left[0]).Node != place))
		}
		if job.Done == 1<<40 && len(now.Left) < len(job.Left) {
			events = append(events, "Done as it was")
		}
	}
	return events
}

func wantedManagerEvents() []string {
	return []string{
		"syntax", "version", "kept", "another line of an id that is kept", "the oldest goes",
		"place ok", "place error 5", "place error 7", "place error 9", "stop ok", "stop error 5", "move ok", "move error 2", "move error 5", "move error 6", "move error 7",
		"tick ok", "tick error 1", "beat ok", "beat error 5", "beat error 6", "fence ok", "fence error 5", "fence error 6", "ready ok", "ready error 5", "ready error 6",
		"show ok", "show error 5", "list ok", "bill ok", "bill error 5", "drain ok", "drain error 4", "drain error 5", "drain error 6", "step ok", "job ok", "job error 5", "cancel ok", "cancel error 5", "cancel error 6",
		"step: State 1, some left false", "step: State 2, some left true", "cancel: State 3, some left false",
		"passed, was there true, is elsewhere true", "passed, was there true, is elsewhere false", "passed, was there false, is elsewhere false", "Done as it was",
	}
}

// A right manager stays right, and each line is answered as said once more.
func TestARightManagerStaysRight(t *testing.T) {
	rng := rand.New(rand.NewSource(2356))
	events := map[string]int{}
	for n := range 1500 {
		g := anyManager(rng)
		for k := range 30 {
			line := randomManAsk(rng, g, 1+rng.Int63n(80))
			what := fmt.Sprintf("manager %d, line %d %q", n, k, line)
			run := checkManagerRun(t, what, g, []string{line})
			checkNumber(t, what+": ManagerFault", impl.ManagerFault(run.Manager), impl.OK)
			checkEqual(t, what+": right, said once more", plainManagerRight(run.Manager), true)
			if t.Failed() {
				return
			}
			for _, event := range managerEvents(g, line, run.Replies[0], run.Manager) {
				events[event]++
			}
			g = run.Manager
		}
	}
	for _, event := range wantedManagerEvents() {
		if events[event] < 15 {
			t.Errorf("%s: %d times", event, events[event])
		}
	}
}

// Long runs in one call are as the plain one's, too.
func TestRunManagerOfLongRuns(t *testing.T) {
	rng := rand.New(rand.NewSource(2357))
	for n := range 25 {
		g := anyManager(rng)
		var lines []string
		for range 1000 {
			lines = append(lines, randomManAsk(rng, g, 1+rng.Int63n(2000)))
		}
		run := checkManagerRun(t, fmt.Sprintf("run %d", n), g, lines)
		checkNumber(t, "ManagerFault behind it", impl.ManagerFault(run.Manager), impl.OK)
	}
}

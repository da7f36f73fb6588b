package tests

import (
	"fmt"
	"math/rand"
	"slices"
	"strings"
	"testing"

	"loop.example/g00038/impl"
)

// managerCase is the sample with one thing changed.
type managerCase struct {
	what   string
	right  bool
	change func(g *impl.Manager)
}

func checkManagerFault(t *testing.T, what string, g impl.Manager, right bool) {
	t.Helper()
	before := copyManager(g)
	checkNumber(t, what, impl.ManagerFault(g), faultCode(right))
	checkEqual(t, what+": said once more", plainManagerRight(g), right)
	checkManager(t, what+": what was handed in", g, before)
	got := checkManagerRun(t, what, g, []string{"V1 77 list", "V2 78 step", "V2 79 drain a2", "hello"})
	checkNumber(t, what+": RunManager", got.Code, faultCode(right))
	if !right {
		checkManager(t, what+": with a code", got.Manager, impl.Manager{})
		checkEqual(t, what+": Replies with a code", len(got.Replies), 0)
	}
}

func checkManagerCases(t *testing.T, cases []managerCase) {
	t.Helper()
	for _, c := range cases {
		checkManagerFault(t, c.what, changedManager(sampleManager(), c.change), c.right)
	}
}

func managerBounds(what string, bounds map[int64]bool, put func(g *impl.Manager, n int64)) []managerCase {
	var cases []managerCase
	for n, right := range bounds {
		cases = append(cases, managerCase{fmt.Sprintf("%s %d", what, n), right, func(g *impl.Manager) { put(g, n) }})
	}
	return cases
}

func TestManagerFaultOfNothingAndTheLeast(t *testing.T) {
	checkManagerFault(t, "nothing", impl.Manager{}, false)
	least := impl.Manager{Cluster: impl.Cluster{Tenants: []impl.Tenant{{}}, Over: 100}, Next: 1}
	checkManagerFault(t, "the least", least, true)
	least.Kept, least.Jobs = []impl.Answer{}, []impl.ManJob{}
	checkManagerFault(t, "empty lists", least, true)
	least.Cluster = impl.Cluster{}
	checkManagerFault(t, "no cluster", least, false)
	checkManagerFault(t, "the sample", sampleManager(), true)
}

func TestManagerFaultOfClustersThatAreNotRight(t *testing.T) {
	checkManagerCases(t, []managerCase{
		{"no tenant", false, func(g *impl.Manager) { g.Cluster.Tenants, g.Cluster.Vms = nil, nil }},
		{"Over", false, func(g *impl.Manager) { g.Cluster.Over = 99 }},
		{"Time", false, func(g *impl.Manager) { g.Cluster.Time = 1<<40 + 1 }},
		{"a node's Beat", false, func(g *impl.Manager) { g.Cluster.Nodes[0].Beat = 101 }},
		{"nodes that fall", false, func(g *impl.Manager) { slices.Reverse(g.Cluster.Nodes) }},
		{"machines that fall", false, func(g *impl.Manager) { slices.Reverse(g.Cluster.Vms) }},
		{"a machine on no such node", false, func(g *impl.Manager) { g.Cluster.Vms[0].Node = "zz" }},
		{"a machine beside one from which it is apart", false, func(g *impl.Manager) { g.Cluster.Vms[1].Node = "a1" }},
		{"a tenant above its bounds", false, func(g *impl.Manager) { g.Cluster.Tenants[0].Cpu = 3 }},
		{"a tenant's Bill", false, func(g *impl.Manager) { g.Cluster.Tenants[2].Bill++ }},
		{"no nodes and no machines", true, func(g *impl.Manager) { g.Cluster.Nodes, g.Cluster.Vms = nil, nil }},
		{"no machines", true, func(g *impl.Manager) { g.Cluster.Vms = nil }},
	})
}

func someAnswers(count int64) []impl.Answer {
	var kept []impl.Answer
	for n := range count {
		kept = append(kept, impl.Answer{Id: 1000 - n, Ask: "whatever", Reply: "ever"})
	}
	return kept
}

func TestManagerFaultOfKept(t *testing.T) {
	cases := managerBounds("Kept:", map[int64]bool{0: true, 1: true, 19: true, 20: true, 21: false, 1000: false, 1001: false}, func(g *impl.Manager, n int64) { g.Kept = someAnswers(n) })
	for _, at := range []int{0, 1, 9, 19} {
		ids := withEnds(map[int64]bool{-1: false, 0: false, 1: true, 2: true, 999999998: true, 999999999: true, 1000000000: false})
		cases = append(cases, managerBounds(fmt.Sprintf("answer %d: Id", at), ids, func(g *impl.Manager, n int64) {
			g.Kept = someAnswers(20)
			g.Kept[at].Id = n
		})...)
		sizes := map[int64]bool{0: true, 1: true, 200: true, 201: true, 399: true, 400: true, 401: false, 65536: false, 65537: false}
		cases = append(cases, managerBounds(fmt.Sprintf("answer %d: bytes of Ask", at), sizes, func(g *impl.Manager, n int64) {
			g.Kept = someAnswers(20)
			g.Kept[at].Ask = strings.Repeat("\xff", int(n))
		})...)
		cases = append(cases, managerBounds(fmt.Sprintf("answer %d: bytes of Reply", at), sizes, func(g *impl.Manager, n int64) {
			g.Kept = someAnswers(20)
			g.Kept[at].Reply = strings.Repeat("\n", int(n))
		})...)
		for other := range 20 {
			cases = append(cases, managerCase{fmt.Sprintf("the Id of %d is that of %d", at, other), at == other, func(g *impl.Manager) {
				g.Kept = someAnswers(20)
				g.Kept[at].Id = g.Kept[other].Id
			}})
		}
	}
	checkManagerCases(t, cases)
}

// Ids may come in any order, and Asks and Replies may be alike, of another id, or no lines at all.
func TestManagerFaultLooksAtNoMoreOfKept(t *testing.T) {
	checkManagerCases(t, []managerCase{
		{"rising", true, func(g *impl.Manager) { g.Kept = []impl.Answer{{Id: 1}, {Id: 2}, {Id: 3}} }},
		{"falling", true, func(g *impl.Manager) { g.Kept = []impl.Answer{{Id: 3}, {Id: 2}, {Id: 1}} }},
		{"mixed", true, func(g *impl.Manager) { g.Kept = []impl.Answer{{Id: 3}, {Id: 999999999}, {Id: 1}} }},
		{"an Ask of another id", true, func(g *impl.Manager) { g.Kept[0].Ask = "V1 5 stop db1" }},
		{"a Reply of another id", true, func(g *impl.Manager) { g.Kept[0].Reply = "5 ok" }},
		{"no ask", true, func(g *impl.Manager) { g.Kept[0].Ask, g.Kept[1].Ask = "\x00", "\x00" }},
		{"an ask that is not kept", true, func(g *impl.Manager) { g.Kept[0].Ask = "V1 900 list" }},
	})
}

func someManJobs(count int64) []impl.ManJob {
	var jobs []impl.ManJob
	for n := range count {
		jobs = append(jobs, impl.ManJob{Number: n + 1, Node: "b2", Left: []string{"old"}, State: 1})
	}
	return jobs
}

func TestManagerFaultOfJobs(t *testing.T) {
	cases := managerBounds("Jobs:", map[int64]bool{0: true, 1: true, 19: true, 20: true, 21: false, 1000: false, 1001: false}, func(g *impl.Manager, n int64) {
		g.Jobs, g.Next = someManJobs(n), 2000
	})
	for _, at := range []int{0, 7, 19} {
		put := func(change func(job *impl.ManJob, n int64)) func(g *impl.Manager, n int64) {
			return func(g *impl.Manager, n int64) {
				g.Jobs, g.Next = someManJobs(20), 21
				change(&g.Jobs[at], n)
			}
		}
		what := fmt.Sprintf("job %d: ", at)
		cases = append(cases, managerBounds(what+"Done", withEnds(map[int64]bool{-1: false, 0: true, 1: true, 1<<40 - 1: true, 1 << 40: true, 1<<40 + 1: false}), put(func(job *impl.ManJob, n int64) { job.Done = n }))...)
		cases = append(cases, managerBounds(what+"State", withEnds(map[int64]bool{-1: false, 0: true, 1: true, 2: true, 3: true, 4: false}), put(func(job *impl.ManJob, n int64) { job.State = n }))...)
		cases = append(cases, managerBounds(what+"Left:", map[int64]bool{0: true, 1: true, 29: true, 30: true, 31: false, 1000: false, 1001: false}, put(func(job *impl.ManJob, n int64) { job.Left = numbered("v", n) }))...)
		for name, right := range clusterNames() {
			cases = append(cases, managerCase{fmt.Sprintf("%sNode %.30q", what, name), right, func(g *impl.Manager) {
				put(func(job *impl.ManJob, _ int64) { job.Node = name })(g, 0)
			}})
			for left := range 3 {
				cases = append(cases, managerCase{fmt.Sprintf("%sLeft %d %.30q", what, left, name), right, func(g *impl.Manager) {
					put(func(job *impl.ManJob, _ int64) { job.Left = []string{"a", "b", "c"}; job.Left[left] = name })(g, 0)
				}})
			}
		}
	}
	checkManagerCases(t, cases)
}

func TestManagerFaultOfNumbersOfJobs(t *testing.T) {
	var cases []managerCase
	for what, right := range map[string]bool{
		"1 2 3": true, "1 3 4": true, "4 5 9": true, "7 8 9": true, "1 5 9": true,
		"0 1 2": false, "-1 1 2": false, "1 1 2": false, "1 2 2": false, "2 1 3": false, "1 3 2": false, "3 2 1": false,
		"7 8 10": false, "7 8 11": false, "1 2 9223372036854775807": false, "-9223372036854775808 1 2": false, "10 11 12": false,
	} {
		cases = append(cases, managerCase{"Next 10, Numbers " + what, right, func(g *impl.Manager) {
			g.Jobs, g.Next = someManJobs(3), 10
			_, err := fmt.Sscan(what, &g.Jobs[0].Number, &g.Jobs[1].Number, &g.Jobs[2].Number)
			if err != nil {
				t.Fatal(err)
			}
		}})
	}
	checkManagerCases(t, cases)
}

func TestManagerFaultOfNext(t *testing.T) {
	cases := managerBounds("no job, Next", withEnds(map[int64]bool{-1: false, 0: false, 1: true, 2: true, 1<<40 - 1: true, 1 << 40: true, 1<<40 + 1: false}), func(g *impl.Manager, n int64) { g.Jobs, g.Next = nil, n })
	cases = append(cases, managerBounds("job 9, Next", withEnds(map[int64]bool{-1: false, 0: false, 1: false, 8: false, 9: false, 10: true, 11: true, 1 << 40: true, 1<<40 + 1: false}), func(g *impl.Manager, n int64) { g.Next = n })...)
	for number, right := range map[int64]bool{1<<40 - 2: true, 1<<40 - 1: true, 1 << 40: false, 1<<40 + 1: false} {
		cases = append(cases, managerCase{fmt.Sprintf("Next 2^40, Number %d", number), right, func(g *impl.Manager) {
			g.Next = 1 << 40
			g.Jobs[3].Number = number
		}})
	}
	checkManagerCases(t, cases)
}

// Jobs may be of nodes and machines that there are not, and tell a name twice; a job at work may be of a node that is open.
func TestManagerFaultLooksAtNoMoreOfJobs(t *testing.T) {
	checkManagerCases(t, []managerCase{
		{"no such node", true, func(g *impl.Manager) { g.Jobs[0].Node = "nowhere" }},
		{"no such machine", true, func(g *impl.Manager) { g.Jobs[0].Left = []string{"nobody"} }},
		{"a name twice", true, func(g *impl.Manager) { g.Jobs[0].Left = []string{"old", "old"} }},
		{"names that fall", true, func(g *impl.Manager) { g.Jobs[0].Left = []string{"z", "a"} }},
		{"at work at a node that is open", true, func(g *impl.Manager) { g.Jobs[0].Node = "a1" }},
		{"two at work at one node", true, func(g *impl.Manager) { g.Jobs[1].Node, g.Jobs[1].State = "b2", 0 }},
		{"done, with some left", true, func(g *impl.Manager) { g.Jobs[0].State = 1 }},
		{"cancelled, with some left", true, func(g *impl.Manager) { g.Jobs[0].State = 3 }},
		{"over, with nothing left", true, func(g *impl.Manager) { g.Jobs[2].Left = nil }},
	})
}

// managerFields are all numbers of a manager but those of its cluster.
func managerFields(g *impl.Manager) []*int64 {
	fields := []*int64{&g.Next, &g.Cluster.Over}
	for at := range g.Kept {
		fields = append(fields, &g.Kept[at].Id)
	}
	for at := range g.Jobs {
		job := &g.Jobs[at]
		fields = append(fields, &job.Number, &job.Done, &job.State)
	}
	return fields
}

func TestManagerFaultOfRandomManagers(t *testing.T) {
	rng := rand.New(rand.NewSource(2301))
	wrong := 0
	for n := range 2000 {
		g := anyManager(rng)
		checkNumber(t, fmt.Sprintf("manager %d", n), impl.ManagerFault(g), impl.OK)
		fields := managerFields(&g)
		*fields[rng.Intn(len(fields))] = oneOf(rng, -1<<63, -1, 0, 1, 2, 3, 4, 5, 20, 21, 30, 100, 401, 999999999, 1000000000, 1<<40, 1<<40+1, 1<<63-1)
		right := plainManagerRight(g)
		checkManagerFault(t, fmt.Sprintf("manager %d: %+v", n, g), g, right)
		if !right {
			wrong++
		}
		if t.Failed() {
			return
		}
	}
	if !among(int64(wrong), 500, 1800) {
		t.Errorf("%d of 2000 were wrong", wrong)
	}
}

// Lists are bounded ahead of all that goes through them: a manager with far too much is answered at once.
func TestManagerFaultOfFarTooMuch(t *testing.T) {
	far := sampleManager()
	far.Kept = make([]impl.Answer, 300000)
	checkNumber(t, "Kept", impl.ManagerFault(far), impl.ErrForm)
	far.Kept, far.Jobs = nil, make([]impl.ManJob, 300000)
	checkNumber(t, "Jobs", impl.ManagerFault(far), impl.ErrForm)
	far.Jobs = sampleManager().Jobs
	far.Jobs[0].Left = slices.Repeat([]string{"a"}, 300000)
	checkNumber(t, "Left", impl.ManagerFault(far), impl.ErrForm)
	checkNumber(t, "RunManager", impl.RunManager(far, []string{"V1 1 list"}).Code, impl.ErrForm)
}

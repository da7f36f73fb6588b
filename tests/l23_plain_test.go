package tests

import (
	"fmt"
	"math/rand"
	"regexp"
	"slices"
	"strconv"
	"strings"
	"testing"

	"loop.example/g00038/impl"
)

const (
	namePart = `([a-z0-9-]{1,20})`
	numPart  = `(0|[1-9][0-9]{0,12})`
	vmPart   = namePart + ` tenant=` + numPart + ` cpu=` + numPart + ` mem=` + numPart + ` zone=` + numPart + ` apart=` + numPart
)

var (
	vmLine   = regexp.MustCompile(`\A` + vmPart + `\z`)
	askHead  = regexp.MustCompile(`\AV([0-9]) ([1-9][0-9]{0,8})( |\z)`)
	askLines = linesOfAsks()
)

// linesOfAsks tells each kind of ask by what stands behind its id.
func linesOfAsks() map[string]*regexp.Regexp {
	lines := map[string]*regexp.Regexp{}
	for kind, words := range map[string]string{
		"place": ` (` + vmPart + `)`, "stop": ` ` + namePart, "move": ` ` + namePart + ` ` + namePart, "show": ` ` + namePart,
		"list": ``, "bill": ` ` + numPart, "tick": ` ` + numPart, "beat": ` ` + namePart, "fence": ` ` + namePart, "ready": ` ` + namePart,
		"drain": ` ` + namePart, "job": ` ` + numPart, "cancel": ` ` + numPart, "step": ``,
	} {
		lines[kind] = regexp.MustCompile(`\A` + kind + words + `\z`)
	}
	return lines
}

func plainNum(text string) int64 {
	n, err := strconv.ParseInt(text, 10, 64)
	if err != nil {
		panic(err)
	}
	return n
}

// eightTenants is a cluster that any machine may be asked of whose tenant is that of some cluster.
func eightTenants() impl.Cluster { return impl.Cluster{Tenants: make([]impl.Tenant, 8)} }

// plainVmText and plainReadVm are chapter 24's, said once more.
func plainVmText(v impl.Vm) string {
	if !plainVm(eightTenants(), v) {
		return ""
	}
	return fmt.Sprintf("%s tenant=%d cpu=%d mem=%d zone=%d apart=%d", v.Name, v.Tenant, v.Cpu, v.Mem, v.Zone, v.Apart)
}

func plainReadVm(text string) impl.Vm {
	words := vmLine.FindStringSubmatch(text)
	if words == nil {
		return impl.Vm{}
	}
	v := impl.Vm{Name: words[1], Tenant: plainNum(words[2]), Cpu: plainNum(words[3]), Mem: plainNum(words[4]), Zone: plainNum(words[5]), Apart: plainNum(words[6])}
	if !plainVm(eightTenants(), v) {
		return impl.Vm{}
	}
	return v
}

// plainManagerRight is what chapter 24 says of ManagerFault, said once more.
func plainManagerRight(g impl.Manager) bool {
	right := plainClusterRight(g.Cluster) && len(g.Kept) <= 20 && len(g.Jobs) <= 20 && among(g.Next, 1, 1<<40)
	ids := map[int64]bool{}
	for _, a := range g.Kept {
		right = right && among(a.Id, 1, 999999999) && !ids[a.Id] && len(a.Ask) <= 400 && len(a.Reply) <= 400
		ids[a.Id] = true
	}
	ahead := int64(0)
	for _, job := range g.Jobs {
		right = right && among(job.Number, ahead+1, g.Next-1) && plainName(job.Node) && len(job.Left) <= 30 && among(job.Done, 0, 1<<40) && among(job.State, 0, 3)
		for _, name := range job.Left {
			right = right && plainName(name)
		}
		ahead = job.Number
	}
	return right
}

// plainManager is chapter 24's asks, said once more, with lines that are held to patterns.
type plainManager struct {
	plainHost
	kept []impl.Answer
	jobs []impl.ManJob
	next int64
}

func plainOp(kind string, words []string) (op impl.ClusterOp, isOp bool) {
	switch kind {
	case "place":
		return clPlace(plainReadVm(words[1])), true
	case "stop":
		return clStop(words[1]), true
	case "move":
		return clMove(words[1], words[2]), true
	case "tick":
		return clTick(plainNum(words[1])), true
	case "beat":
		return clBeat(words[1]), true
	case "fence":
		return clFence(words[1]), true
	case "ready":
		return clReady(words[1]), true
	}
	return impl.ClusterOp{}, false
}

// plainTold is what a reply tells of an op's answer.
func plainTold(kind string, out impl.ClusterOut) string {
	switch {
	case out.Code != impl.OK:
		return fmt.Sprint("error ", out.Code)
	case kind == "place":
		return "ok " + out.Node
	case kind == "tick" || kind == "fence":
		return fmt.Sprint("ok ", len(out.Vms))
	}
	return "ok"
}

func (p *plainManager) show(name string) string {
	v := p.vm(name)
	if v == nil {
		return "error 5"
	}
	node := v.Node
	if node == "" {
		node = "-"
	}
	return fmt.Sprintf("ok %s node=%s epoch=%d", plainVmText(*v), node, v.Epoch)
}

func (p *plainManager) list() string {
	if len(p.Vms) == 0 {
		return "ok -"
	}
	return "ok " + strings.Join(vmNames(p.Cluster), ",")
}

func (p *plainManager) drainNode(name string) string {
	n := p.node(name)
	if n == nil {
		return "error 5"
	}
	if n.Closed || n.Fenced {
		return "error 6"
	}
	for _, job := range p.jobs {
		if job.Node == name && job.State == 0 {
			return "error 6"
		}
	}
	if len(p.jobs) >= 20 || p.next >= 1<<40 {
		return "error 4"
	}
	n.Closed = true
	job := impl.ManJob{Number: p.next, Node: name}
	for _, v := range p.Vms {
		if v.Node == name {
			job.Left = append(job.Left, v.Name)
		}
	}
	p.jobs, p.next = append(p.jobs, job), p.next+1
	return fmt.Sprint("ok ", job.Number)
}

func (p *plainManager) stepOf(job *impl.ManJob) {
	if len(job.Left) > 0 {
		v := p.vm(job.Left[0])
		if v != nil && v.Node == job.Node {
			node := plainBest(p.Cluster, *v)
			if node == "" {
				job.State = 2
				return
			}
			v.Node = node
		}
		job.Left = slices.Clone(job.Left[1:])
		job.Done = min(1<<40, job.Done+1)
	}
	if len(job.Left) == 0 {
		job.State = 1
	}
}

func (p *plainManager) ofJob(kind string, number int64) string {
	for at := range p.jobs {
		job := &p.jobs[at]
		switch {
		case job.Number != number:
		case kind == "job":
			return fmt.Sprintf("ok %d %d %d", job.State, job.Done, len(job.Left))
		case job.State != 0:
			return "error 6"
		default:
			job.State, job.Left = 3, nil
			return "ok"
		}
	}
	return "error 5"
}

func (p *plainManager) doAsk(kind string, words []string) string {
	op, isOp := plainOp(kind, words)
	if isOp {
		return plainTold(kind, p.do(op))
	}
	switch kind {
	case "show":
		return p.show(words[1])
	case "list":
		return p.list()
	case "bill":
		if plainNum(words[1]) >= int64(len(p.Tenants)) {
			return "error 5"
		}
		return fmt.Sprint("ok ", p.Tenants[plainNum(words[1])].Bill)
	case "drain":
		return p.drainNode(words[1])
	case "step":
		for at := range p.jobs {
			if p.jobs[at].State == 0 {
				p.stepOf(&p.jobs[at])
			}
		}
		return "ok"
	}
	return p.ofJob(kind, plainNum(words[1]))
}

// kindOfAsk is empty where a line is no ask of any version.
func kindOfAsk(rest string) (kind string, words []string) {
	kind, _, _ = strings.Cut(rest, " ")
	line := askLines[kind]
	if line == nil {
		return "", nil
	}
	words = line.FindStringSubmatch(rest)
	if words == nil || kind == "place" && plainReadVm(words[1]) == (impl.Vm{}) {
		return "", nil
	}
	return kind, words
}

func (p *plainManager) reply(line string) string {
	head := askHead.FindStringSubmatch(line)
	if len(line) > 200 || head == nil {
		return "0 syntax"
	}
	id := head[2]
	if head[1] != "1" && head[1] != "2" {
		return id + " version"
	}
	kind, words := kindOfAsk(line[len(head[0]):])
	if kind == "" {
		return "0 syntax"
	}
	if head[1] == "1" && strings.Contains(" drain job cancel step ", " "+kind+" ") {
		return id + " version"
	}
	for _, a := range p.kept {
		if a.Id == plainNum(id) && a.Ask == line {
			return a.Reply
		}
		if a.Id == plainNum(id) {
			return id + " error 9"
		}
	}
	reply := id + " " + p.doAsk(kind, words)
	if !strings.Contains(" show list bill job ", " "+kind+" ") {
		p.kept = append(p.kept, impl.Answer{Id: plainNum(id), Ask: line, Reply: reply})
		p.kept = p.kept[max(0, len(p.kept)-20):]
	}
	return reply
}

func plainManagerRun(g impl.Manager, lines []string) impl.ManRun {
	if len(lines) > 1000 {
		return impl.ManRun{Code: impl.ErrSize}
	}
	if !plainManagerRight(g) {
		return impl.ManRun{Code: impl.ErrForm}
	}
	g = copyManager(g)
	p := &plainManager{plainHost{g.Cluster}, g.Kept, g.Jobs, g.Next}
	var replies []string
	for _, line := range lines {
		replies = append(replies, p.reply(line))
	}
	return impl.ManRun{Manager: impl.Manager{Cluster: p.Cluster, Kept: p.kept, Jobs: p.jobs, Next: p.next}, Replies: replies}
}

func copyManager(g impl.Manager) impl.Manager {
	g.Cluster, g.Kept, g.Jobs = copyCluster(g.Cluster), slices.Clone(g.Kept), slices.Clone(g.Jobs)
	for at := range g.Jobs {
		g.Jobs[at].Left = slices.Clone(g.Jobs[at].Left)
	}
	return g
}

func changedManager(g impl.Manager, change func(g *impl.Manager)) impl.Manager {
	g = copyManager(g)
	change(&g)
	return g
}

// sampleManager has a job in each state, and two answers; the job at work is that of b2.
func sampleManager() impl.Manager {
	return impl.Manager{
		Cluster: sampleCluster(),
		Kept:    []impl.Answer{{Id: 900, Ask: "V1 900 beat a1", Reply: "900 ok"}, {Id: 700, Ask: "V2 700 step", Reply: "700 ok"}},
		Jobs: []impl.ManJob{
			{Number: 1, Node: "b2", Left: []string{"old"}},
			{Number: 3, Node: "a1", Done: 2, State: 1},
			{Number: 4, Node: "a2", Left: []string{"db2", "gone"}, Done: 1, State: 2},
			{Number: 9, Node: "c1", State: 3},
		},
		Next: 12,
	}
}

// sameJob takes an empty list and none as alike.
func sameJob(a impl.ManJob, b impl.ManJob) bool {
	return a.Number == b.Number && a.Node == b.Node && slices.Equal(a.Left, b.Left) && a.Done == b.Done && a.State == b.State
}

func sameManager(a impl.Manager, b impl.Manager) bool {
	return sameCluster(a.Cluster, b.Cluster) && slices.Equal(a.Kept, b.Kept) && slices.EqualFunc(a.Jobs, b.Jobs, sameJob) && a.Next == b.Next
}

func checkManager(t *testing.T, what string, got impl.Manager, want impl.Manager) {
	t.Helper()
	if !sameManager(got, want) {
		t.Errorf("%s: got %.9000s\nwant %.9000s", what, fmt.Sprintf("%+v", got), fmt.Sprintf("%+v", want))
	}
}

func checkManJobs(t *testing.T, what string, got []impl.ManJob, want ...impl.ManJob) {
	t.Helper()
	if !slices.EqualFunc(got, want, sameJob) {
		t.Errorf("%s: got %+v, want %+v", what, got, want)
	}
}

// checkManagerRun holds a run to the plain one, and what was handed in to what it was.
func checkManagerRun(t *testing.T, what string, g impl.Manager, lines []string) impl.ManRun {
	t.Helper()
	before, asked := copyManager(g), slices.Clone(lines)
	want := plainManagerRun(g, lines)
	got := impl.RunManager(g, lines)
	checkNumber(t, what+": Code", got.Code, want.Code)
	checkNames(t, what+": Replies", got.Replies, want.Replies)
	checkManager(t, what+": the manager", got.Manager, want.Manager)
	checkManager(t, what+": what was handed in", g, before)
	checkNames(t, what+": the lines", lines, asked)
	return got
}

// checkAsks takes lines and, behind each, what is replied to it; it answers the manager behind them.
func checkAsks(t *testing.T, what string, g impl.Manager, said ...string) impl.Manager {
	t.Helper()
	var lines, replies []string
	for pair := range slices.Chunk(said, 2) {
		lines, replies = append(lines, pair[0]), append(replies, pair[1])
	}
	got := checkManagerRun(t, what, g, lines)
	checkNumber(t, what+": Code", got.Code, impl.OK)
	checkNames(t, what, got.Replies, replies)
	checkNumber(t, what+": ManagerFault behind it", impl.ManagerFault(got.Manager), impl.OK)
	return got.Manager
}

// checkNoChange holds a manager to what it was behind asks that change nothing and are not kept.
func checkNoChange(t *testing.T, what string, g impl.Manager, said ...string) {
	t.Helper()
	checkManager(t, what+": nothing happened", checkAsks(t, what, g, said...), g)
}

// anyManager is right; its jobs are of nodes that there are, mostly, and their Left of machines that there are.
func anyManager(rng *rand.Rand) impl.Manager {
	g := impl.Manager{Cluster: anyCluster(rng), Next: oneOf(rng, 1, 2, 5, 30, 1<<40-2, 1<<40)}
	bare := g
	for _, id := range rng.Perm(40)[:rng.Intn(21)] {
		n := int64(id) + 1
		g.Kept = append(g.Kept, impl.Answer{Id: n, Ask: randomManAsk(rng, bare, n), Reply: fmt.Sprintf("%d kept %d", n, rng.Intn(100))})
	}
	number := int64(0)
	for range rng.Intn(21) {
		number += oneOf(rng, 1, 1, 2)
		if number >= g.Next {
			break
		}
		job := impl.ManJob{Number: number, Node: randomNodeName(rng, g.Cluster), Done: oneOf(rng, 0, 1, 5, 1<<40-1, 1<<40), State: oneOf(rng, 0, 0, 0, 1, 2, 3)}
		if !plainName(job.Node) {
			job.Node = "nowhere"
		}
		for range rng.Intn(5) {
			job.Left = append(job.Left, randomVmOf(rng, g.Cluster, job.Node))
		}
		g.Jobs = append(g.Jobs, job)
	}
	return g
}

// randomVmOf is mostly a machine on that node, where there is one.
func randomVmOf(rng *rand.Rand, c impl.Cluster, node string) string {
	var there []string
	for _, v := range c.Vms {
		if v.Node == node {
			there = append(there, v.Name)
		}
	}
	switch {
	case len(there) > 0 && rng.Intn(4) > 0:
		return there[rng.Intn(len(there))]
	case len(c.Vms) > 0:
		return c.Vms[rng.Intn(len(c.Vms))].Name
	}
	return randomVmName(rng)
}

// askOf is an op as an ask of V1; it is empty where there is none for it.
func askOf(op impl.ClusterOp, id int64) string {
	line := fmt.Sprintf("V1 %d ", id)
	switch op.Kind {
	case impl.ClPlace:
		if plainVmText(op.Vm) == "" {
			return ""
		}
		return line + "place " + plainVmText(op.Vm)
	case impl.ClStop:
		return line + "stop " + op.Name
	case impl.ClMove:
		if !plainName(op.Node) {
			return ""
		}
		return line + "move " + op.Name + " " + op.Node
	case impl.ClTick:
		if !among(op.Time, 0, 9999999999999) {
			return ""
		}
		return line + fmt.Sprint("tick ", op.Time)
	}
	kind := map[int64]string{impl.ClBeat: "beat ", impl.ClFence: "fence ", impl.ClReady: "ready "}[op.Kind]
	if kind == "" || !plainName(op.Node) {
		return ""
	}
	return line + kind + op.Node
}

// randomManAsk is mostly one that may be asked, and at times one of Kept.
func randomManAsk(rng *rand.Rand, g impl.Manager, id int64) string {
	if len(g.Kept) > 0 && rng.Intn(8) == 0 {
		return g.Kept[rng.Intn(len(g.Kept))].Ask
	}
	line := askOf(randomClusterOp(rng, g.Cluster), id)
	late := []string{
		"drain " + randomNodeName(rng, g.Cluster), "drain " + randomNodeName(rng, g.Cluster), "step", "step", "step",
		fmt.Sprint("job ", rng.Intn(25)), fmt.Sprint("cancel ", rng.Intn(25)),
		"list", fmt.Sprint("bill ", rng.Intn(9)), "show " + randomVmOf(rng, g.Cluster, ""),
	}
	if line == "" || rng.Intn(2) == 0 {
		line = fmt.Sprintf("V2 %d %s", id, late[rng.Intn(len(late))])
	}
	return "V" + fmt.Sprint(oneOf(rng, 1, 2, 2, 2, 2, 2, 2, 2, 0, 3)) + line[2:]
}

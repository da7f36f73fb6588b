package tests

import (
	"fmt"
	"math/rand"
	"slices"
	"strings"
	"testing"

	"loop.example/g00038/impl"
)

func jobWrite(at int64, text string) impl.JobOp {
	return impl.JobOp{Kind: impl.JbWrite, At: at, Text: text}
}

func jobRead(at int64, size int64) impl.JobOp {
	return impl.JobOp{Kind: impl.JbRead, At: at, Size: size}
}

func jobStart(kind int64, target string) impl.JobOp {
	return impl.JobOp{Kind: impl.JbStart, Job: kind, Target: target}
}

func jobStep(size int64) impl.JobOp { return impl.JobOp{Kind: impl.JbStep, Size: size} }

func jobFinish() impl.JobOp { return impl.JobOp{Kind: impl.JbFinish} }

func jobCrash() impl.JobOp { return impl.JobOp{Kind: impl.JbCrash} }

// jobText tells a state with its texts quoted, an empty list and none alike.
func jobText(st impl.JobState) string {
	job := st.Job
	return fmt.Sprintf("active %q job %d next %d dirty %q target %q%s", st.Active, job.Kind, job.Next, job.Dirty, job.Target, chainText(st.Images))
}

func outsText(outs []impl.JobOut) string {
	text := ""
	for n, out := range outs {
		text += fmt.Sprintf("\n  %d: code %d left %d data %q", n, out.Code, out.Left, out.Data)
	}
	return text
}

func checkJobState(t *testing.T, what string, got impl.JobState, want impl.JobState) {
	t.Helper()
	if got.Active != want.Active || got.Job != want.Job || !slices.EqualFunc(got.Images, want.Images, sameImage) {
		t.Errorf("%s: got %s\nwant %s", what, jobText(got), jobText(want))
	}
}

func checkJobOuts(t *testing.T, what string, got []impl.JobOut, want []impl.JobOut) {
	t.Helper()
	if !slices.Equal(got, want) {
		t.Errorf("%s: got %s\nwant %s", what, outsText(got), outsText(want))
	}
}

func copyState(st impl.JobState) impl.JobState {
	st.Images = slices.Clone(st.Images)
	for at := range st.Images {
		st.Images[at] = copyImage(st.Images[at])
	}
	return st
}

func changedState(st impl.JobState, change func(st *impl.JobState)) impl.JobState {
	st = copyState(st)
	change(&st)
	return st
}

// withImage is the state with the image of that name another one.
func withImage(st impl.JobState, name string, change func(m *impl.Image)) impl.JobState {
	st.Images = putImage(st.Images, changedImage(imageNamed(st.Images, name), change))
	return st
}

func frontsOf(list []impl.Image, name string) int {
	count := 0
	for _, m := range list {
		if m.Back == name {
			count++
		}
	}
	return count
}

type refusal struct {
	holds bool
	code  int64
}

// plainRefusals are what chapter 15 says of JbStart, for each kind in its order.
func plainRefusals(list []impl.Image, active string, target string) map[int64][]refusal {
	m, to := imageNamed(list, active), imageNamed(list, target)
	behind := imageNamed(list, m.Back)
	return map[int64][]refusal{
		1: {
			{target != "", impl.ErrForm},
			{m.Back == "", impl.ErrNone},
		},
		2: {
			{target != "", impl.ErrForm},
			{m.Back == "", impl.ErrNone},
			{frontsOf(list, m.Back) != 1 || len(m.Snaps) != 0, impl.ErrRight},
			{len(behind.Table) < len(m.Table), impl.ErrSize},
		},
		3: {
			{target == "", impl.ErrForm},
			{to.Name == "" || to.Name == active, impl.ErrNone},
			{frontsOf(list, target) != 0 || to.Back != "" || len(to.Snaps) != 0, impl.ErrRight},
			{len(to.Table) != len(m.Table), impl.ErrSize},
		},
	}
}

func plainStart(list []impl.Image, active string, kind int64, target string) int64 {
	refusals, found := plainRefusals(list, active, target)[kind]
	if !found {
		return impl.ErrForm
	}
	for _, r := range refusals {
		if r.holds {
			return r.code
		}
	}
	return impl.OK
}

// plainJobRight is what chapter 15 says of JobFault, said once more.
func plainJobRight(st impl.JobState) bool {
	if !plainChainRight(st.Images) || imageNamed(st.Images, st.Active).Name == "" || frontsOf(st.Images, st.Active) > 0 {
		return false
	}
	job := st.Job
	if job.Kind == 0 {
		return job.Next == 0 && job.Dirty == "" && job.Target == ""
	}
	last := int64(len(imageNamed(st.Images, st.Active).Table))
	if len(job.Dirty) > 8 || !among(job.Next, 0, last) {
		return false
	}
	for n := range plainBits(job.Dirty) {
		if job.Kind == 1 || int64(n) >= job.Next {
			return false
		}
	}
	return plainStart(st.Images, st.Active, job.Kind, job.Target) == impl.OK
}

func plainBits(set string) map[int]bool {
	bits := map[int]bool{}
	for n := range 8 * len(set) {
		if set[n/8]>>(n%8)&1 == 1 {
			bits[n] = true
		}
	}
	return bits
}

// plainJobs has what is still to be done as clusters that were not reached and those that are done once more.
type plainJobs struct {
	images []impl.Image
	active string
	kind   int64
	target string
	ahead  []int
	again  map[int]bool
	size   int // how many bytes the text of again has had to have
}

func newPlainJobs(st impl.JobState) *plainJobs {
	p := &plainJobs{images: st.Images, active: st.Active, kind: st.Job.Kind, target: st.Job.Target}
	p.again, p.size = plainBits(st.Job.Dirty), len(st.Job.Dirty)
	if p.kind != 0 {
		p.reachFrom(int(st.Job.Next))
	}
	return p
}

func (p *plainJobs) clusters() int { return len(imageNamed(p.images, p.active).Table) }

func (p *plainJobs) reachFrom(next int) {
	p.ahead = nil
	for n := next; n < p.clusters(); n++ {
		p.ahead = append(p.ahead, n)
	}
}

func (p *plainJobs) noJob() {
	p.kind, p.target, p.ahead, p.again, p.size = 0, "", nil, map[int]bool{}, 0
}

func (p *plainJobs) left() int64 { return int64(len(p.ahead) + len(p.again)) }

func (p *plainJobs) state() impl.JobState {
	st := impl.JobState{Images: p.images, Active: p.active, Job: impl.Job{Kind: p.kind, Target: p.target}}
	if p.kind == 0 {
		return st
	}
	st.Job.Next = int64(p.clusters() - len(p.ahead))
	dirty := make([]byte, p.size)
	for n := range p.again {
		dirty[n/8] |= 1 << (n % 8)
	}
	st.Job.Dirty = string(dirty)
	return st
}

func (p *plainJobs) put(name string, at int64, text string) int64 {
	run := plainRunImage(p.images, name, []impl.ImageOp{diskWrite(at, text)})
	p.images = putImage(p.images, run.Image)
	return run.Codes[0]
}

func (p *plainJobs) write(at int64, text string) int64 {
	code := p.put(p.active, at, text)
	if code != impl.OK || p.kind < 2 {
		return code
	}
	for i := range text {
		n := (int(at) + i) / 16
		if !slices.Contains(p.ahead, n) {
			p.again[n] = true
			p.size = max(p.size, n/8+1)
		}
	}
	return impl.OK
}

func (p *plainJobs) one(n int) int64 {
	m := imageNamed(p.images, p.active)
	text := plainRow(p.images, p.active)[16*n : 16*n+16]
	to := map[int64]string{1: p.active, 2: m.Back, 3: p.target}[p.kind]
	if p.kind == 1 && m.Table[n] != -1 || p.kind == 2 && m.Table[n] == -1 {
		return impl.OK
	}
	return p.put(to, int64(16*n), text)
}

func (p *plainJobs) step(size int64) int64 {
	if p.kind == 0 {
		return impl.ErrState
	}
	if !among(size, 1, 64) {
		return impl.ErrForm
	}
	for range size {
		order := slices.Clone(p.ahead)
		for n := range 64 {
			if p.again[n] {
				order = append(order, n)
			}
		}
		if len(order) == 0 {
			break
		}
		if code := p.one(order[0]); code != impl.OK {
			return code
		}
		if len(p.ahead) > 0 {
			p.ahead = p.ahead[1:]
		} else {
			delete(p.again, order[0])
		}
	}
	return impl.OK
}

func (p *plainJobs) finish() int64 {
	if p.kind == 0 || p.left() > 0 {
		return impl.ErrState
	}
	m := copyImage(imageNamed(p.images, p.active))
	switch p.kind {
	case 1:
		m.Back = ""
		p.images = putImage(p.images, m)
	case 2:
		p.active = m.Back
		p.images = slices.DeleteFunc(slices.Clone(p.images), func(other impl.Image) bool { return other.Name == m.Name })
	case 3:
		p.active = p.target
	}
	p.noJob()
	return impl.OK
}

func (p *plainJobs) do(op impl.JobOp) impl.JobOut {
	code := int64(impl.ErrForm)
	switch op.Kind {
	case 1:
		code = p.write(op.At, op.Text)
	case 2:
		read := plainReadImage(p.images, p.active, op.At, op.Size)
		return impl.JobOut{Code: read.Code, Data: read.Data, Left: p.left()}
	case 3:
		code = impl.ErrState
		if p.kind == 0 {
			code = plainStart(p.images, p.active, op.Job, op.Target)
		}
		if code == impl.OK {
			p.noJob()
			p.kind, p.target = op.Job, op.Target
			p.reachFrom(0)
		}
	case 4:
		code = p.step(op.Size)
	case 5:
		code = p.finish()
	case 6:
		code = impl.ErrState
		if p.kind != 0 {
			p.noJob()
			code = impl.OK
		}
	}
	return impl.JobOut{Code: code, Left: p.left()}
}

func plainRunJobs(st impl.JobState, ops []impl.JobOp) impl.JobRun {
	if len(ops) > 1000 {
		return impl.JobRun{Code: impl.ErrSize}
	}
	if !plainJobRight(st) {
		return impl.JobRun{Code: impl.ErrForm}
	}
	p := newPlainJobs(st)
	var outs []impl.JobOut
	for _, op := range ops {
		outs = append(outs, p.do(op))
	}
	return impl.JobRun{State: p.state(), Outs: outs}
}

func sameImage(a impl.Image, b impl.Image) bool {
	alike := func(a impl.Snap, b impl.Snap) bool { return a.Name == b.Name && slices.Equal(a.Table, b.Table) }
	return a.Name == b.Name && a.Back == b.Back && slices.Equal(a.Table, b.Table) && slices.Equal(a.Data, b.Data) && slices.EqualFunc(a.Snaps, b.Snaps, alike)
}

// addressesOf counts at which addresses the items of all lists of images lie.
func addressesOf(list []impl.Image) map[any]int {
	counts := map[any]int{}
	for at := range list {
		m := &list[at]
		counts[m]++
		for n := range m.Data {
			counts[&m.Data[n]]++
		}
		for n := range m.Snaps {
			counts[&m.Snaps[n]]++
		}
		for _, table := range append(snapTables(*m), m.Table) {
			for n := range table {
				counts[&table[n]]++
			}
		}
	}
	return counts
}

// checkNew holds that no two lists of an answer share memory, and none does with what was handed in.
func checkNew(t *testing.T, what string, answer []impl.Image, given []impl.Image) {
	t.Helper()
	ahead := addressesOf(given)
	for address, count := range addressesOf(answer) {
		if count+ahead[address] > 1 {
			t.Errorf("%s: lists share memory", what)
			return
		}
	}
}

// checkJobs holds a run to the plain one, and what was handed in to what it was.
func checkJobs(t *testing.T, what string, st impl.JobState, ops []impl.JobOp) impl.JobRun {
	t.Helper()
	was, wasOps := copyState(st), slices.Clone(ops)
	got, want := impl.RunJobs(st, ops), plainRunJobs(st, ops)
	checkNumber(t, what+": code", got.Code, want.Code)
	checkJobOuts(t, what, got.Outs, want.Outs)
	checkJobState(t, what, got.State, want.State)
	checkNew(t, what, got.State.Images, st.Images)
	if want.Code == impl.OK {
		checkNumber(t, what+": JobFault behind it", impl.JobFault(got.State), impl.OK)
	}
	checkJobState(t, what+": what was handed in", st, was)
	if !slices.Equal(ops, wasOps) {
		t.Errorf("%s: the ops that were handed in are others", what)
	}
	return got
}

func randomSize(rng *rand.Rand, clusters int, others ...int64) int {
	return int(min(max(int64(clusters)+oneOf(rng, others...), 1), 64))
}

// randomJobState is a right one without a job; most jobs may begin on it.
func randomJobState(rng *rand.Rand) impl.JobState {
	clusters := int(oneOf(rng, 1, 2, 3, 5, 8, 9, 17, 64, 64))
	image := func(name string, back string, clusters int, snaps int64) impl.Image {
		return randomImage(rng, name, back, clusters, int(snaps), int(oneOf(rng, 0, 30, 60, 100)))
	}
	var list []impl.Image
	back := ""
	for n := range oneOf(rng, 0, 1, 1, 2, 3) {
		name := fmt.Sprintf("back-%d", n)
		list = append(list, image(name, back, randomSize(rng, clusters, 0, 0, 0, 1, 3, -1), oneOf(rng, 0, 0, 1, 8)))
		back = name
	}
	list = append(list, image("act", back, clusters, oneOf(rng, 0, 0, 0, 8)))
	list = append(list, image("spare", "", randomSize(rng, clusters, 0, 0, 0, 0, 1, -1), oneOf(rng, 0, 0, 0, 0, 1)))
	if rng.Intn(3) == 0 {
		behind := []string{back, "spare", "back-0"}[rng.Intn(3)]
		if imageNamed(list, behind).Name == "" {
			behind = ""
		}
		list = append(list, image("twin", behind, randomSize(rng, clusters, 0, 0, 1, -1), oneOf(rng, 0, 0, 1)))
	}
	rng.Shuffle(len(list), func(a int, b int) { list[a], list[b] = list[b], list[a] })
	return impl.JobState{Images: list, Active: "act"}
}

// randomJobOp is mostly one that can be done.
func randomJobOp(rng *rand.Rand, st impl.JobState) impl.JobOp {
	clusters := int64(len(imageNamed(st.Images, st.Active).Table))
	op := impl.JobOp{Kind: oneOf(rng, 1, 1, 1, 1, 2, 2, 3, 4, 4, 4, 5, 5)}
	if st.Job.Kind == 0 && rng.Intn(3) > 0 {
		op.Kind = impl.JbStart
	}
	if rng.Intn(18) == 0 {
		op.Kind = oneOf(rng, 0, 6, 6, 7, -1)
	}
	switch op.Kind {
	case impl.JbWrite:
		op.At = rng.Int63n(16 * clusters)
		op.Text = strings.Repeat(string(rune('A'+rng.Intn(26))), int(min(oneOf(rng, 1, 2, 15, 16, 17, 40, 400), 16*clusters-op.At)))
	case impl.JbRead:
		op.At = rng.Int63n(16 * clusters)
		op.Size = rng.Int63n(16*clusters - op.At + 1)
	case impl.JbStart:
		op.Job = oneOf(rng, 1, 2, 2, 2, 3, 3)
		if op.Job == impl.JobMirror {
			op.Target = []string{"spare", "spare", "spare", "act", "twin", "back-0", "none"}[rng.Intn(7)]
		}
	case impl.JbStep:
		op.Size = oneOf(rng, 1, 1, 2, 3, 7, 40, 64)
	}
	if rng.Intn(8) == 0 {
		op.At += oneOf(rng, -1, 1, 16, -1000, 1<<62)
		op.Size += oneOf(rng, -1, 1, 64, -64)
		op.Job = oneOf(rng, op.Job, 0, 4, -1, 1, 2, 3)
		op.Target = []string{op.Target, "", "spare", "act"}[rng.Intn(4)]
	}
	return op
}

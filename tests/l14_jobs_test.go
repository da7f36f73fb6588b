package tests

import (
	"fmt"
	"math"
	"slices"
	"strings"
	"testing"

	"loop.example/g00038/impl"
)

// jobRan runs ops, of which the last ones have the answers that are told.
func jobRan(t *testing.T, what string, st impl.JobState, ops []impl.JobOp, want ...impl.JobOut) impl.JobState {
	t.Helper()
	run := checkJobs(t, what, st, ops)
	checkNumber(t, what+": code", run.Code, impl.OK)
	if len(run.Outs) != len(ops) {
		t.Fatalf("%s: %d answers to %d ops", what, len(run.Outs), len(ops))
	}
	checkJobOuts(t, what, run.Outs[len(ops)-len(want):], want)
	return run.State
}

// jobRefused runs an op that is refused and changes nothing.
func jobRefused(t *testing.T, what string, st impl.JobState, op impl.JobOp, code int64) {
	t.Helper()
	left := int64(0)
	if st.Job.Kind != 0 {
		left = int64(len(imageNamed(st.Images, st.Active).Table)) - st.Job.Next + int64(len(plainBits(st.Job.Dirty)))
	}
	now := jobRan(t, what, st, []impl.JobOp{op, op}, impl.JobOut{Code: code, Left: left}, impl.JobOut{Code: code, Left: left})
	checkJobState(t, what, now, st)
}

// jobPhases are states at each place that a job can have come to.
func jobPhases() map[string]impl.JobState {
	phases := map[string]impl.JobState{"none": stateOf(impl.Job{})}
	for _, job := range kindsOfJobs() {
		begun, half, done, dirty := job, job, job, job
		half.Next, done.Next, dirty.Next, dirty.Dirty = 2, 4, 4, "\x0a"
		phases[fmt.Sprintf("%d begun", job.Kind)] = stateOf(begun)
		phases[fmt.Sprintf("%d half", job.Kind)] = stateOf(half)
		phases[fmt.Sprintf("%d done", job.Kind)] = stateOf(done)
		if job.Kind != impl.JobStream {
			phases[fmt.Sprintf("%d dirty", job.Kind)] = stateOf(dirty)
		}
	}
	return phases
}

func TestJobOpsInEachPhase(t *testing.T) {
	ops := []impl.JobOp{jobWrite(17, "ab"), jobRead(15, 3), jobStart(impl.JobStream, ""), jobStep(1), jobFinish(), jobCrash(), {Kind: 7}}
	state, form := int64(impl.ErrState), int64(impl.ErrForm)
	codes := map[string][]int64{"none": {0, 0, 0, state, state, state, form}}
	left := map[string][]int64{"none": {0, 0, 4, 0, 0, 0, 0}}
	for _, kind := range []string{"1", "2", "3"} {
		codes[kind+" begun"], left[kind+" begun"] = []int64{0, 0, state, 0, state, 0, form}, []int64{4, 4, 4, 3, 4, 0, 4}
		codes[kind+" half"], left[kind+" half"] = []int64{0, 0, state, 0, state, 0, form}, []int64{3, 2, 2, 1, 2, 0, 2}
		codes[kind+" done"], left[kind+" done"] = []int64{0, 0, state, 0, 0, 0, form}, []int64{1, 0, 0, 0, 0, 0, 0}
		codes[kind+" dirty"], left[kind+" dirty"] = []int64{0, 0, state, 0, state, 0, form}, []int64{2, 2, 2, 1, 2, 0, 2}
	}
	left["1 half"][0], left["1 done"][0] = 2, 0
	for phase, st := range jobPhases() {
		for n, op := range ops {
			want := impl.JobOut{Code: codes[phase][n], Left: left[phase][n]}
			if op.Kind == impl.JbRead {
				want.Data = "xff"
			}
			jobRan(t, fmt.Sprintf("%s, op %d", phase, op.Kind), st, []impl.JobOp{op}, want)
		}
	}
}

func TestJobOpsThatAreNone(t *testing.T) {
	for phase, st := range jobPhases() {
		for _, kind := range []int64{0, -1, 7, 8, 9, 256 + 1, 1<<32 + 1, math.MinInt64, math.MaxInt64} {
			op := impl.JobOp{Kind: kind, At: 1, Size: 1, Text: "text", Job: impl.JobStream}
			jobRefused(t, fmt.Sprintf("%s, kind %d", phase, kind), st, op, impl.ErrForm)
		}
	}
}

// dirtyBehind is what is in Dirty behind a write to the disk of a job that has come to next.
func dirtyBehind(t *testing.T, job impl.Job, next int64, at int64, text string) string {
	t.Helper()
	job.Next = next
	what := fmt.Sprintf("job %d, next %d, %d bytes at %d", job.Kind, next, len(text), at)
	now := jobRan(t, what, stateOf(job), []impl.JobOp{jobWrite(at, text)})
	checkNumber(t, what+": Next", now.Job.Next, next)
	disk := frontDisk()
	checkText(t, what, impl.DiskOf(now.Images, "front"), disk[:at]+text+disk[int(at)+len(text):])
	checkAlike(t, what+": base and spare", now.Images[1:], jobImages()[1:])
	return now.Job.Dirty
}

func TestJobWrite(t *testing.T) {
	for _, job := range kindsOfJobs() {
		for next := range int64(5) {
			for at := range int64(64) {
				for size := int64(1); at+size <= 64; size += 5 {
					bits := byte(0)
					for n := at / 16; n <= (at+size-1)/16; n++ {
						if n < next && job.Kind != impl.JobStream {
							bits |= 1 << n
						}
					}
					want := string([]byte{bits})
					if bits == 0 {
						want = ""
					}
					checkText(t, "Dirty", dirtyBehind(t, job, next, at, strings.Repeat("*", int(size))), want)
				}
			}
		}
	}
}

// A write puts bits to those that are there, in as many bytes as they need.
func TestJobWriteAgain(t *testing.T) {
	for _, job := range kindsOfJobs()[1:] {
		job.Next, job.Dirty = 3, "\x02\x00\x00"
		once := jobRan(t, "a bit more", stateOf(job), []impl.JobOp{jobWrite(0, "*")}, impl.JobOut{Left: 3})
		checkText(t, "a bit more", once.Job.Dirty, "\x03\x00\x00")
		again := jobRan(t, "no bit more", once, []impl.JobOp{jobWrite(0, "+"), jobWrite(30, "+"), jobWrite(63, "+")}, impl.JobOut{Left: 3})
		checkText(t, "no bit more", again.Job.Dirty, "\x03\x00\x00")
		job.Next, job.Dirty = 64, ""
		wide := jobRan(t, "64 clusters", wideState(job), []impl.JobOp{jobWrite(16*20, "*")}, impl.JobOut{Left: 1})
		checkText(t, "64 clusters", wide.Job.Dirty, "\x00\x00\x10")
		wide = jobRan(t, "64 clusters", wide, []impl.JobOp{jobWrite(0, strings.Repeat("*", 1024))}, impl.JobOut{Left: 64})
		checkText(t, "64 clusters", wide.Job.Dirty, strings.Repeat("\xff", 8))
		wide = jobRan(t, "64 clusters done", wide, []impl.JobOp{jobStep(63), jobStep(1)}, impl.JobOut{Left: 1}, impl.JobOut{})
		checkText(t, "64 clusters done", wide.Job.Dirty, bytes0(8))
	}
}

func TestJobWriteThatIsRefused(t *testing.T) {
	long := strings.Repeat("*", impl.MaxBytes+1)
	for phase, st := range jobPhases() {
		for _, at := range []int64{-1, -16, 64, 65, 1 << 32, 1 << 62, math.MinInt64, math.MaxInt64, math.MaxInt64 - 15} {
			jobRefused(t, fmt.Sprintf("%s, at %d", phase, at), st, jobWrite(at, "*"), impl.ErrSize)
			jobRefused(t, fmt.Sprintf("%s, nothing at %d", phase, at), st, jobWrite(at, ""), impl.ErrSize)
		}
		jobRefused(t, phase+", nothing", st, jobWrite(0, ""), impl.ErrSize)
		jobRefused(t, phase+", one byte beyond the end", st, jobWrite(1, strings.Repeat("*", 64)), impl.ErrSize)
		jobRefused(t, phase+", a byte too many", st, jobWrite(0, strings.Repeat("*", 65)), impl.ErrSize)
		jobRefused(t, phase+", very many bytes", st, jobWrite(0, long), impl.ErrSize)
		jobRan(t, phase+", to the end", st, []impl.JobOp{jobWrite(63, "*"), jobWrite(0, strings.Repeat("*", 64)), jobRead(63, 1)})
	}
}

// crowded has 64 clusters and count texts; the clusters at the places have that entry, and their texts a Snap has.
func crowded(name string, back string, count int64, entry int64, places ...int64) impl.Image {
	m := fullImage(count)
	m.Name, m.Back = name, back
	m.Snaps = append(m.Snaps, impl.Snap{Name: "more", Table: slices.Repeat([]int64{-1}, 64)})
	for _, at := range places {
		m.Snaps[1].Table[at] = m.Table[at]
		m.Table[at] = entry
	}
	return m
}

func TestJobWriteWithoutRoom(t *testing.T) {
	st := wideState(impl.Job{})
	st.Images[0] = crowded("front", "base", 128, -1, 5)
	for _, job := range []impl.Job{{}, {Kind: impl.JobStream, Next: 3}, {Kind: impl.JobMirror, Target: "spare", Next: 9, Dirty: "\x08"}} {
		st.Job = job
		checkJobFault(t, "no room", st, true)
		jobRefused(t, "no room", st, jobWrite(5*16+3, "*"), impl.ErrCount)
		jobRefused(t, "no room for one of several", st, jobWrite(4*16+3, strings.Repeat("*", 50)), impl.ErrCount)
		jobRefused(t, "beyond the end, too", st, jobWrite(5*16, strings.Repeat("*", 1024)), impl.ErrSize)
		now := jobRan(t, "room elsewhere", st, []impl.JobOp{jobWrite(4*16, "*")})
		if job.Kind == impl.JobMirror {
			checkText(t, "room elsewhere", now.Job.Dirty, "\x18")
		}
	}
}

func TestJobRead(t *testing.T) {
	for phase, st := range jobPhases() {
		left := checkJobs(t, phase, st, []impl.JobOp{jobRead(0, 0)}).Outs[0].Left
		for at := int64(0); at <= 64; at += 7 {
			for size := int64(0); at+size <= 64; size += 3 {
				jobRan(t, fmt.Sprintf("%s, %d bytes at %d", phase, size, at), st, []impl.JobOp{jobRead(at, size)}, impl.JobOut{Data: frontDisk()[at : at+size], Left: left})
			}
		}
		for _, n := range []int64{-1, 65, 1 << 32, 1 << 62, math.MinInt64, math.MaxInt64} {
			for _, other := range []int64{0, 1, 64, -1, n} {
				jobRefused(t, fmt.Sprintf("%s, %d bytes at %d", phase, other, n), st, jobRead(n, other), impl.ErrSize)
				jobRefused(t, fmt.Sprintf("%s, %d bytes at %d", phase, n, other), st, jobRead(other, n), impl.ErrSize)
			}
		}
		jobRan(t, phase+", at the end", st, []impl.JobOp{jobRead(64, 0), jobRead(63, 1)}, impl.JobOut{Left: left}, impl.JobOut{Data: "z", Left: left})
		jobRefused(t, phase+", one beyond the end", st, jobRead(63, 2), impl.ErrSize)
	}
}

func TestJobStart(t *testing.T) {
	for _, job := range kindsOfJobs() {
		start := impl.JobOp{Kind: impl.JbStart, Job: job.Kind, Target: job.Target, At: -9, Size: -9, Text: strings.Repeat("x", impl.MaxBytes+1)}
		now := jobRan(t, "a start", stateOf(impl.Job{}), []impl.JobOp{start}, impl.JobOut{Left: 4})
		checkJobState(t, "a start", now, stateOf(job))
		wide := jobRan(t, "a wide start", wideState(impl.Job{}), []impl.JobOp{start}, impl.JobOut{Left: 64})
		checkJobState(t, "a wide start", wide, wideState(job))
	}
	for _, kind := range []int64{0, -1, 4, 5, 6, 256 + 1, 1<<32 + 1, math.MinInt64, math.MaxInt64} {
		for _, target := range []string{"", "spare", "front", "none"} {
			jobRefused(t, fmt.Sprintf("job %d to %q", kind, target), stateOf(impl.Job{}), jobStart(kind, target), impl.ErrForm)
		}
	}
	for phase, st := range jobPhases() {
		for _, kind := range []int64{0, 1, 2, 3, 4} {
			for _, target := range []string{"", "spare", "none"} {
				if phase != "none" {
					jobRefused(t, phase+", another start", st, jobStart(kind, target), impl.ErrState)
				}
			}
		}
	}
}

// startCase is a change to the images, and the code of a start then.
type startCase struct {
	what   string
	change func(st *impl.JobState)
	op     impl.JobOp
	code   int64
}

func imageChange(name string, change func(m *impl.Image)) func(st *impl.JobState) {
	return func(st *impl.JobState) { *st = withImage(*st, name, change) }
}

func bothChanges(changes ...func(st *impl.JobState)) func(st *impl.JobState) {
	return func(st *impl.JobState) {
		for _, change := range changes {
			change(st)
		}
	}
}

func checkStarts(t *testing.T, cases []startCase) {
	t.Helper()
	for _, c := range cases {
		st := changedState(stateOf(impl.Job{}), c.change)
		if c.code != impl.OK {
			jobRefused(t, c.what, st, c.op, c.code)
			continue
		}
		left := int64(len(imageNamed(st.Images, st.Active).Table))
		now := jobRan(t, c.what, st, []impl.JobOp{c.op}, impl.JobOut{Left: left})
		checkAlike(t, c.what, now.Job, impl.Job{Kind: c.op.Job, Target: c.op.Target})
	}
}

func TestJobStartOfStreamsAndCommits(t *testing.T) {
	none := func(st *impl.JobState) {}
	alone := imageChange("front", func(m *impl.Image) { m.Back = "" })
	snap := imageChange("front", func(m *impl.Image) { m.Snaps = []impl.Snap{snapOf("old", -1, -1, -1, -1)} })
	behindSnap := imageChange("base", func(m *impl.Image) { m.Snaps = []impl.Snap{snapOf("old", -1, -1, -1, -1)} })
	shorter := imageChange("base", func(m *impl.Image) { m.Table, m.Data = m.Table[:3], m.Data[:2] })
	longer := imageChange("base", func(m *impl.Image) { m.Table = append(m.Table, -1) })
	twin := func(st *impl.JobState) { st.Images = append(st.Images, twinOf("base")) }
	stream, commit := jobStart(impl.JobStream, ""), jobStart(impl.JobCommit, "")
	checkStarts(t, []startCase{
		{"a stream", none, stream, impl.OK},
		{"a stream with a Target", none, jobStart(impl.JobStream, "spare"), impl.ErrForm},
		{"a stream with a Target that is none", none, jobStart(impl.JobStream, "none"), impl.ErrForm},
		{"a stream without a Back", alone, stream, impl.ErrNone},
		{"a stream without a Back, with a Target", alone, jobStart(impl.JobStream, "spare"), impl.ErrForm},
		{"a stream with a Snap", snap, stream, impl.OK},
		{"a stream with a twin", twin, stream, impl.OK},
		{"a stream from a shorter one", shorter, stream, impl.OK},
		{"a stream from a longer one", longer, stream, impl.OK},
		{"a commit", none, commit, impl.OK},
		{"a commit with a Target", none, jobStart(impl.JobCommit, "base"), impl.ErrForm},
		{"a commit without a Back, with a Target", alone, jobStart(impl.JobCommit, "spare"), impl.ErrForm},
		{"a commit without a Back", alone, commit, impl.ErrNone},
		{"a commit without a Back, with a Snap", bothChanges(alone, snap), commit, impl.ErrNone},
		{"a commit without a Back, others have none either", bothChanges(alone, twin), commit, impl.ErrNone},
		{"a commit with a Snap", snap, commit, impl.ErrRight},
		{"a commit with a twin", twin, commit, impl.ErrRight},
		{"a commit with a Snap and a Target", snap, jobStart(impl.JobCommit, "spare"), impl.ErrForm},
		{"a commit with a Snap, to a shorter one", bothChanges(snap, shorter), commit, impl.ErrRight},
		{"a commit with a twin, to a shorter one", bothChanges(twin, shorter), commit, impl.ErrRight},
		{"a commit to a shorter one", shorter, commit, impl.ErrSize},
		{"a commit to a longer one", longer, commit, impl.OK},
		{"a commit to one with a Snap", behindSnap, commit, impl.OK},
	})
}

func TestJobStartOfMirrors(t *testing.T) {
	none := func(st *impl.JobState) {}
	snap := imageChange("spare", func(m *impl.Image) { m.Snaps = []impl.Snap{snapOf("old", -1, -1, -1, -1)} })
	back := imageChange("spare", func(m *impl.Image) { m.Back = "base" })
	shorter := imageChange("spare", func(m *impl.Image) { m.Table = m.Table[:3] })
	longer := imageChange("spare", func(m *impl.Image) { m.Table = append(m.Table, -1) })
	twin := func(st *impl.JobState) { st.Images = append(st.Images, twinOf("spare")) }
	alone := imageChange("front", func(m *impl.Image) { m.Back = "" })
	mirror := func(target string) impl.JobOp { return jobStart(impl.JobMirror, target) }
	checkStarts(t, []startCase{
		{"a mirror", none, mirror("spare"), impl.OK},
		{"a mirror of one without a Back", alone, mirror("spare"), impl.OK},
		{"a mirror to what is not behind it any more", alone, mirror("base"), impl.OK},
		{"a mirror to nothing", none, mirror(""), impl.ErrForm},
		{"a mirror to none", none, mirror("none"), impl.ErrNone},
		{"a mirror to a piece of a name", none, mirror("spar"), impl.ErrNone},
		{"a mirror to very many bytes", none, mirror(strings.Repeat("x", impl.MaxBytes+1)), impl.ErrNone},
		{"a mirror to Active", none, mirror("front"), impl.ErrNone},
		{"a mirror to what is behind", none, mirror("base"), impl.ErrRight},
		{"a mirror to what is behind a twin", twin, mirror("spare"), impl.ErrRight},
		{"a mirror to a twin", twin, mirror("twin"), impl.ErrRight},
		{"a mirror to one with a Back", back, mirror("spare"), impl.ErrRight},
		{"a mirror to one with a Snap", snap, mirror("spare"), impl.ErrRight},
		{"a mirror to a shorter one with a Snap", bothChanges(shorter, imageChange("spare", func(m *impl.Image) { m.Snaps = []impl.Snap{snapOf("old", -1, -1, -1)} })), mirror("spare"), impl.ErrRight},
		{"a mirror to a shorter one with a Back", bothChanges(shorter, back), mirror("spare"), impl.ErrRight},
		{"a mirror to a longer one behind a twin", bothChanges(longer, twin), mirror("spare"), impl.ErrRight},
		{"a mirror to a shorter one", shorter, mirror("spare"), impl.ErrSize},
		{"a mirror to a longer one", longer, mirror("spare"), impl.ErrSize},
	})
}

func TestJobStepOfSizes(t *testing.T) {
	for phase, st := range jobPhases() {
		for _, size := range []int64{0, -1, -64, 65, 66, 1000, 1 << 32, 1<<32 + 1, math.MinInt64, math.MaxInt64} {
			code := int64(impl.ErrForm)
			if phase == "none" {
				code = impl.ErrState
			}
			jobRefused(t, fmt.Sprintf("%s, size %d", phase, size), st, jobStep(size), code)
		}
		if phase == "none" {
			jobRefused(t, "no job", st, jobStep(1), impl.ErrState)
			continue
		}
		left := checkJobs(t, phase, st, []impl.JobOp{jobRead(0, 0)}).Outs[0].Left
		for _, size := range []int64{1, 2, 3, 4, 5, 63, 64} {
			jobRan(t, fmt.Sprintf("%s, size %d", phase, size), st, []impl.JobOp{jobStep(size)}, impl.JobOut{Left: max(left-size, 0)})
		}
		now := jobRan(t, phase+", all", st, []impl.JobOp{jobStep(64), jobStep(64), jobStep(1)}, impl.JobOut{}, impl.JobOut{}, impl.JobOut{})
		checkNumber(t, phase+": Next", now.Job.Next, 4)
	}
	for _, job := range kindsOfJobs() {
		now := jobRan(t, "64 at once", wideState(job), []impl.JobOp{jobStep(64)}, impl.JobOut{})
		checkNumber(t, "64 at once", now.Job.Next, 64)
		now = jobRan(t, "63 at once", wideState(job), []impl.JobOp{jobStep(63)}, impl.JobOut{Left: 1})
		checkNumber(t, "63 at once", now.Job.Next, 63)
	}
}

// Each cluster of a stream, a commit and a mirror, and what has become of the images.
func TestJobStepOfEachJob(t *testing.T) {
	images := jobImages()
	x, f, z, s := cellOf("x"), cellOf("f"), cellOf("z"), cellOf("s")
	base := func(table []int64, data ...string) impl.Image {
		return impl.Image{Name: "base", Table: table, Data: data}
	}
	front := func(table []int64, data ...string) impl.Image {
		return impl.Image{Name: "front", Back: "base", Table: table, Data: data}
	}
	spare := func(table []int64, data ...string) impl.Image {
		return impl.Image{Name: "spare", Table: table, Data: data}
	}
	digits := images[1].Data[1]
	for at, steps := range [][]impl.Image{
		{front([]int64{1, 0, -2, -1}, f, x), front([]int64{1, 0, -2, -1}, f, x), front([]int64{1, 0, -2, -1}, f, x), front([]int64{1, 0, -2, 2}, f, x, z)},
		{base([]int64{0, 1, -1, 2}, x, digits, z), base([]int64{0, 1, -1, 2}, x, f, z), base([]int64{0, 1, 3, 2}, x, f, z, bytes0(16)), base([]int64{0, 1, 3, 2}, x, f, z, bytes0(16))},
		{spare([]int64{1, 0, -2, -1}, s, x), spare([]int64{1, 0, -2, -1}, f, x), spare([]int64{1, 0, 2, -1}, f, x, bytes0(16)), spare([]int64{1, 0, 2, 3}, f, x, bytes0(16), z)},
	} {
		job := kindsOfJobs()[at]
		st := stateOf(job)
		for n, m := range steps {
			what := fmt.Sprintf("job %d, cluster %d", job.Kind, n)
			st = jobRan(t, what, st, []impl.JobOp{jobStep(1)}, impl.JobOut{Left: int64(3 - n)})
			want := stateOf(job)
			want.Job.Next = int64(n + 1)
			want.Images = putImage(want.Images, m)
			checkJobState(t, what, st, want)
			checkText(t, what, impl.DiskOf(st.Images, "front"), frontDisk())
		}
	}
}

// The clusters in Dirty come behind all others, the first one first, and none is done that is not in it.
func TestJobStepOfDirty(t *testing.T) {
	for _, job := range kindsOfJobs()[1:] {
		target := map[int64]string{impl.JobCommit: "base", impl.JobMirror: "spare"}[job.Kind]
		ops := []impl.JobOp{jobStep(3), jobWrite(32, "2"), jobWrite(0, "0"), jobWrite(16, "1"), jobStep(1)}
		outs := []impl.JobOut{{Left: 1}, {Left: 2}, {Left: 3}, {Left: 4}, {Left: 3}}
		st := jobRan(t, "up to the end", stateOf(job), ops, outs...)
		checkText(t, "up to the end", st.Job.Dirty, "\x07")
		for n, dirty := range []string{"\x06", "\x04", "\x00"} {
			was := impl.DiskOf(st.Images, target)
			st = jobRan(t, "one of Dirty", st, []impl.JobOp{jobStep(1)}, impl.JobOut{Left: int64(2 - n)})
			checkText(t, "one of Dirty", st.Job.Dirty, dirty)
			now := was[:16*n] + fmt.Sprint(n) + frontDisk()[16*n+1:16*n+16] + was[16*n+16:]
			checkText(t, "one of Dirty", impl.DiskOf(st.Images, target), now)
			checkNumber(t, "one of Dirty", st.Job.Next, 4)
		}
		more := jobRan(t, "written again", st, []impl.JobOp{jobWrite(50, "3"), jobWrite(1, "4"), jobFinish(), jobStep(1), jobFinish(), jobStep(64)}, impl.JobOut{Left: 1}, impl.JobOut{Code: impl.ErrState, Left: 1}, impl.JobOut{})
		checkText(t, "written again", impl.DiskOf(more.Images, target), impl.DiskOf(more.Images, "front"))
	}
}

// A cluster without room is still to be done, those ahead of it in the step are done.
func TestJobStepOfStreamsWithoutRoom(t *testing.T) {
	st := wideState(impl.Job{})
	st.Images[0] = crowded("front", "base", 128, -1, 5)
	full := impl.JobOut{Code: impl.ErrCount, Left: 59}
	now := jobRan(t, "a full one", st, []impl.JobOp{jobStart(impl.JobStream, ""), jobStep(64), jobStep(1), jobStep(2), jobFinish()}, impl.JobOut{Left: 64}, full, full, full, impl.JobOut{Code: impl.ErrState, Left: 59})
	checkNumber(t, "a full one", now.Job.Next, 5)
	checkImage(t, "a full one", now.Images[0], st.Images[0])
	jobRan(t, "up to it", st, []impl.JobOp{jobStart(impl.JobStream, ""), jobStep(5), jobStep(1)}, impl.JobOut{Left: 59}, full)
	jobRan(t, "a wrong size ahead of it", now, []impl.JobOp{jobStep(65)}, impl.JobOut{Code: impl.ErrForm, Left: 59})

	st.Images[0] = crowded("front", "base", 127, -1, 1, 5)
	st.Images[1].Table[1], st.Images[1].Data = 0, []string{cellOf("y")}
	now = jobRan(t, "room for one", st, []impl.JobOp{jobStart(impl.JobStream, ""), jobStep(64), jobStep(64)}, impl.JobOut{Left: 64}, full, full)
	checkNumber(t, "room for one", now.Job.Next, 5)
	checkImage(t, "room for one", now.Images[0], changedImage(st.Images[0], func(m *impl.Image) { m.Table[1], m.Data = 127, append(m.Data, cellOf("y")) }))
	checkText(t, "room for one", impl.DiskOf(now.Images, "front"), impl.DiskOf(st.Images, "front"))
	end := jobRan(t, "a crash", now, []impl.JobOp{jobCrash(), jobStart(impl.JobStream, ""), jobStep(64)}, impl.JobOut{}, impl.JobOut{Left: 64}, full)
	checkJobState(t, "a crash", end, now)
}

func TestJobStepOfCommitsWithoutRoom(t *testing.T) {
	st := wideState(impl.Job{})
	st.Images[1] = crowded("base", "", 128, 64, 5)
	start := jobStart(impl.JobCommit, "")
	ops := []impl.JobOp{jobWrite(5*16, "*"), start, jobStep(6), jobStep(64), jobFinish()}
	full := impl.JobOut{Code: impl.ErrCount, Left: 59}
	now := jobRan(t, "its own text", st, ops, impl.JobOut{Left: 64}, full, full, impl.JobOut{Code: impl.ErrState, Left: 59})
	checkImage(t, "its own text", now.Images[1], st.Images[1])

	ops = []impl.JobOp{start, jobStep(64), jobWrite(5*16, "*"), jobStep(64), jobStep(1), jobFinish()}
	full.Left = 1
	now = jobRan(t, "a text that came", st, ops, impl.JobOut{Left: 64}, impl.JobOut{}, impl.JobOut{Left: 1}, full, full, impl.JobOut{Code: impl.ErrState, Left: 1})
	checkText(t, "a text that came", now.Job.Dirty, "\x20")
	checkImage(t, "a text that came", now.Images[1], st.Images[1])

	full.Left = 2
	now = jobRan(t, "others of Dirty", now, []impl.JobOp{jobWrite(2*16, "+"), jobWrite(9*16, "-"), jobStep(64), jobStep(64)}, impl.JobOut{Left: 2}, impl.JobOut{Left: 3}, full, full)
	checkText(t, "others of Dirty", now.Job.Dirty, "\x20\x02")
	behind := impl.DiskOf(st.Images, "base")
	checkText(t, "others of Dirty", impl.DiskOf(now.Images, "base"), behind[:32]+"+"+behind[33:])
	row := behind[:32] + "+" + behind[33:80] + "*" + behind[81:144] + "-" + behind[145:]
	checkText(t, "the guest's row", impl.DiskOf(now.Images, "front"), row)
}

func TestJobFinish(t *testing.T) {
	images := jobImages()
	for _, job := range kindsOfJobs() {
		for next := range int64(4) {
			job.Next = next
			jobRefused(t, "ahead of the end", stateOf(job), jobFinish(), impl.ErrState)
		}
		if job.Kind != impl.JobStream {
			job.Next, job.Dirty = 4, "\x08"
			jobRefused(t, "a cluster in Dirty", stateOf(job), jobFinish(), impl.ErrState)
		}
		job.Next, job.Dirty = 4, "\x00"
		now := jobRan(t, "at the end", stateOf(job), []impl.JobOp{jobFinish(), jobFinish(), jobStep(1), jobCrash()}, impl.JobOut{}, impl.JobOut{Code: impl.ErrState}, impl.JobOut{Code: impl.ErrState}, impl.JobOut{Code: impl.ErrState})
		want := map[int64]impl.JobState{
			impl.JobStream: {Images: imagesOf(changedImage(images[0], func(m *impl.Image) { m.Back = "" }), images[1], images[2]), Active: "front"},
			impl.JobCommit: {Images: images[1:], Active: "base"},
			impl.JobMirror: {Images: images, Active: "spare"},
		}[job.Kind]
		checkJobState(t, fmt.Sprintf("the end of job %d", job.Kind), now, want)
	}
	jobRefused(t, "no job", stateOf(impl.Job{}), jobFinish(), impl.ErrState)
	for n := range images {
		order := append(slices.Clone(images[n:]), images[:n]...)
		st := impl.JobState{Images: order, Active: "front", Job: impl.Job{Kind: impl.JobCommit, Next: 4}}
		now := jobRan(t, "the others stay in order", st, []impl.JobOp{jobFinish()}, impl.JobOut{})
		gone := slices.DeleteFunc(slices.Clone(order), func(m impl.Image) bool { return m.Name == "front" })
		checkText(t, "the others stay in order", chainText(now.Images), chainText(gone))
	}
}

// The whole of each job, and another one on what it has come to.
func TestJobsOneBehindTheOther(t *testing.T) {
	end := []impl.JobOp{jobStep(64), jobFinish(), jobRead(0, 64)}
	disk := "x*" + frontDisk()[2:]
	whole := impl.JobOut{Data: disk}
	first := []impl.JobOp{jobWrite(1, "*"), jobStart(impl.JobMirror, "spare")}
	st := jobRan(t, "a mirror", stateOf(impl.Job{}), append(first, end...), impl.JobOut{}, impl.JobOut{}, whole)
	checkText(t, "a mirror", st.Active, "spare")
	checkText(t, "the old one stays", impl.DiskOf(st.Images, "front"), disk)
	jobRefused(t, "no Back", st, jobStart(impl.JobStream, ""), impl.ErrNone)
	jobRefused(t, "no Back", st, jobStart(impl.JobCommit, ""), impl.ErrNone)
	jobRefused(t, "the old one has a Back", st, jobStart(impl.JobMirror, "front"), impl.ErrRight)
	st = jobRan(t, "the old one as Active", changedState(st, func(st *impl.JobState) { st.Active = "front" }), append([]impl.JobOp{jobStart(impl.JobStream, "")}, end...), impl.JobOut{}, impl.JobOut{}, whole)
	st = jobRan(t, "a mirror to what was behind", st, append([]impl.JobOp{jobStart(impl.JobMirror, "base")}, end...), impl.JobOut{}, impl.JobOut{}, whole)
	checkText(t, "a mirror to what was behind", st.Active, "base")
	st = jobRan(t, "and back", st, append([]impl.JobOp{jobWrite(2, "+"), jobStart(impl.JobMirror, "front")}, end...), impl.JobOut{}, impl.JobOut{}, impl.JobOut{Data: "x*+" + disk[3:]})
	checkText(t, "and back", st.Active, "front")
	row := impl.JobState{Images: rowImages(12), Active: "n0"}
	for n := range 11 {
		row = jobRan(t, "a row", row, []impl.JobOp{jobWrite(int64(n), "*"), jobStart(impl.JobCommit, ""), jobStep(2), jobFinish()}, impl.JobOut{Left: 2}, impl.JobOut{}, impl.JobOut{})
		checkText(t, "a row", row.Active, fmt.Sprintf("n%d", n+1))
	}
	checkText(t, "a row", impl.DiskOf(row.Images, "n11"), strings.Repeat("*", 11)+bytes0(21))
	checkNumber(t, "a row", int64(len(row.Images)), 1)
}

func TestJobCrash(t *testing.T) {
	for phase, st := range jobPhases() {
		if phase == "none" {
			jobRefused(t, "no job", st, jobCrash(), impl.ErrState)
			continue
		}
		now := jobRan(t, phase, st, []impl.JobOp{jobCrash(), jobCrash(), jobStart(0, "")}, impl.JobOut{}, impl.JobOut{Code: impl.ErrState}, impl.JobOut{Code: impl.ErrForm})
		checkJobState(t, phase, now, stateOf(impl.Job{}))
		anew := jobRan(t, phase, st, []impl.JobOp{jobCrash(), jobStart(impl.JobMirror, "spare")}, impl.JobOut{}, impl.JobOut{Left: 4})
		checkJobState(t, phase, anew, stateOf(impl.Job{Kind: impl.JobMirror, Target: "spare"}))
	}
}

// What is behind Active is longer by two clusters, or shorter by one.
func TestJobsOnAnotherLength(t *testing.T) {
	longer := withImage(stateOf(impl.Job{}), "base", func(m *impl.Image) { m.Table, m.Data = append(m.Table, -2, 3), append(m.Data, cellOf("t")) })
	shorter := withImage(stateOf(impl.Job{}), "base", func(m *impl.Image) { m.Table, m.Data = m.Table[:3], m.Data[:2] })
	tail := bytes0(16) + cellOf("t")
	end := func(kind int64, target string) []impl.JobOp {
		return []impl.JobOp{jobStart(kind, target), jobStep(2), jobWrite(3, "-"), jobStep(3), jobFinish()}
	}
	row := "xxx-" + frontDisk()[4:]
	st := jobRan(t, "a commit to a longer one", longer, append(end(impl.JobCommit, ""), jobRead(0, 96), jobRead(0, 97), jobWrite(95, "!")), impl.JobOut{Data: row + tail}, impl.JobOut{Code: impl.ErrSize}, impl.JobOut{})
	checkText(t, "a commit to a longer one", impl.DiskOf(st.Images, st.Active), row+tail[:31]+"!")
	st = jobRan(t, "a stream from a longer one", longer, append(end(impl.JobStream, ""), jobRead(0, 64), jobRead(0, 65)), impl.JobOut{Data: row}, impl.JobOut{Code: impl.ErrSize})
	checkText(t, "a stream from a longer one", impl.DiskOf(st.Images, "base"), impl.DiskOf(longer.Images, "base"))
	jobRan(t, "a mirror ahead of a longer one", longer, append(end(impl.JobMirror, "spare"), jobRead(0, 64), jobRead(0, 65)), impl.JobOut{Data: row}, impl.JobOut{Code: impl.ErrSize})
	row = row[:48] + bytes0(16)
	st = jobRan(t, "a stream from a shorter one", shorter, append(end(impl.JobStream, ""), jobRead(0, 64)), impl.JobOut{Data: row})
	checkImage(t, "a stream from a shorter one", st.Images[0], impl.Image{Name: "front", Table: []int64{1, 0, -2, 2}, Data: []string{cellOf("f"), "xxx-" + cellOf("x")[4:], bytes0(16)}})
	jobRan(t, "a mirror ahead of a shorter one", shorter, append(end(impl.JobMirror, "spare"), jobRead(0, 64)), impl.JobOut{Data: row})
}

// Active's Snaps stay as they were by a stream, and those of what is behind by a commit.
func TestJobsOnImagesWithSnaps(t *testing.T) {
	old := func(m *impl.Image) { m.Snaps = []impl.Snap{snapOf("old", 0, -1, -2, 0)} }
	front := withImage(stateOf(impl.Job{}), "front", old)
	st := jobRan(t, "a stream", front, []impl.JobOp{jobWrite(16, "*"), jobStart(impl.JobStream, ""), jobStep(64), jobFinish()})
	f := cellOf("f")
	checkImage(t, "a stream", st.Images[0], impl.Image{Name: "front", Table: []int64{2, 1, -2, 3}, Data: []string{f, "*" + f[1:], cellOf("x"), cellOf("z")}, Snaps: []impl.Snap{snapOf("old", 0, -1, -2, 0)}})
	base := withImage(stateOf(impl.Job{}), "base", old)
	st = jobRan(t, "a commit", base, []impl.JobOp{jobWrite(0, "*"), jobStart(impl.JobCommit, ""), jobStep(64), jobFinish()})
	want := changedImage(base.Images[1], func(m *impl.Image) {
		m.Table, m.Data = []int64{3, 1, 4, 2}, []string{m.Data[0], f, m.Data[2], "*" + m.Data[0][1:], bytes0(16)}
	})
	checkImage(t, "a commit", st.Images[0], want)
}

func TestJobsOfManyOps(t *testing.T) {
	for count, code := range map[int]int64{0: impl.OK, 1: impl.OK, 999: impl.OK, 1000: impl.OK, 1001: impl.ErrSize, 5000: impl.ErrSize} {
		ops := slices.Repeat([]impl.JobOp{jobWrite(0, "*")}, count)
		for what, st := range map[string]impl.JobState{"right": stateOf(impl.Job{}), "not right": stateOf(impl.Job{Kind: 4}), "nothing": {}} {
			want := code
			if code == impl.OK && what != "right" {
				want = impl.ErrForm
			}
			run := checkJobs(t, what, st, ops)
			checkNumber(t, fmt.Sprintf("%s, %d ops", what, count), run.Code, want)
			if want != impl.OK {
				checkAlike(t, what, run, impl.JobRun{Code: want})
			} else {
				checkNumber(t, what, int64(len(run.Outs)), int64(count))
			}
		}
	}
	ops := slices.Repeat([]impl.JobOp{jobStart(impl.JobMirror, "spare"), jobStep(64), jobWrite(0, strings.Repeat("*", 1024)), jobStep(64), jobCrash()}, 200)
	run := impl.RunJobs(wideState(impl.Job{}), ops)
	checkNumber(t, "much work", run.Code, impl.OK)
	checkText(t, "much work", impl.DiskOf(run.State.Images, "spare"), strings.Repeat("*", 1024))
}

// A text of very many bytes within an op counts for nothing, where the op asks for none.
func TestJobOpsWithLongTexts(t *testing.T) {
	long := strings.Repeat("x", impl.MaxBytes+1)
	for phase, st := range jobPhases() {
		for kind := int64(2); kind <= 6; kind++ {
			op := impl.JobOp{Kind: kind, Size: 1, Job: impl.JobStream}
			want := impl.RunJobs(st, []impl.JobOp{op})
			op.Text = long
			got := checkJobs(t, phase, st, []impl.JobOp{op})
			checkJobOuts(t, phase, got.Outs, want.Outs)
			if kind != impl.JbStart {
				op.Target, op.Job = long, math.MinInt64
				checkJobOuts(t, phase, checkJobs(t, phase, st, []impl.JobOp{op}).Outs, want.Outs)
			}
		}
	}
}

// Lists that what is handed in has twice are two in the answer.
func TestJobsOnListsThatAreShared(t *testing.T) {
	table, data := []int64{0, 1, -1, -2}, []string{cellOf("a"), cellOf("b")}
	list := imagesOf(impl.Image{Name: "front", Back: "base", Table: table, Data: data}, impl.Image{Name: "base", Table: table, Data: data}, impl.Image{Name: "spare", Table: table, Data: data})
	for _, job := range kindsOfJobs() {
		st := impl.JobState{Images: list, Active: "front"}
		ops := []impl.JobOp{jobWrite(0, "*"), jobStart(job.Kind, job.Target), jobStep(2), jobWrite(20, "+"), jobStep(3), jobWrite(63, "-")}
		jobRan(t, fmt.Sprintf("job %d", job.Kind), st, ops)
	}
	checkNumbers(t, "the table", table, []int64{0, 1, -1, -2})
	checkAlike(t, "the data", data, []string{cellOf("a"), cellOf("b")})
}

package tests

import (
	"fmt"
	"math"
	"math/rand"
	"slices"
	"strings"
	"testing"

	"loop.example/g00038/impl"
)

// jobImages are front and base behind it, both of four clusters, and spare, which front may be mirrored to.
func jobImages() []impl.Image {
	front := impl.Image{Name: "front", Back: "base", Table: []int64{-1, 0, -2, -1}, Data: []string{cellOf("f")}}
	base := impl.Image{Name: "base", Table: []int64{0, 1, -1, 2}, Data: []string{cellOf("x"), "0123456789ABCDEF", cellOf("z")}}
	spare := impl.Image{Name: "spare", Table: []int64{0, 0, -2, -1}, Data: []string{cellOf("s")}}
	return imagesOf(front, base, spare)
}

// frontDisk is what front of jobImages reads as.
func frontDisk() string { return cellOf("x") + cellOf("f") + bytes0(16) + cellOf("z") }

func stateOf(job impl.Job) impl.JobState {
	return impl.JobState{Images: jobImages(), Active: "front", Job: job}
}

// kindsOfJobs are jobs that may be at work on stateOf.
func kindsOfJobs() []impl.Job {
	return []impl.Job{{Kind: impl.JobStream}, {Kind: impl.JobCommit}, {Kind: impl.JobMirror, Target: "spare"}}
}

// twinOf stands ahead of the image of that name, too.
func twinOf(back string) impl.Image {
	return impl.Image{Name: "twin", Back: back, Table: []int64{-1}}
}

// checkJobFault holds both calls to what is said of a state.
func checkJobFault(t *testing.T, what string, st impl.JobState, right bool) {
	t.Helper()
	was := copyState(st)
	code := int64(impl.ErrForm)
	if right {
		code = impl.OK
	}
	checkNumber(t, what+": JobFault", impl.JobFault(st), code)
	if plainJobRight(st) != right {
		t.Errorf("%s: the plain state is not so", what)
	}
	none := checkJobs(t, what+": no ops", st, nil)
	checkNumber(t, what+": RunJobs", none.Code, code)
	if right {
		checkJobState(t, what+": no ops", none.State, st)
	}
	checkJobs(t, what, st, []impl.JobOp{jobWrite(3, "some"), jobStep(1), jobRead(0, 16), jobFinish(), jobCrash()})
	checkAlike(t, what+": too many ops", impl.RunJobs(st, make([]impl.JobOp, impl.MaxList+1)), impl.JobRun{Code: impl.ErrSize})
	checkJobState(t, what+": what was handed in", st, was)
}

func TestConstantsOfJobs(t *testing.T) {
	checkNumbers(t, "jobs", []int64{impl.JobStream, impl.JobCommit, impl.JobMirror}, []int64{1, 2, 3})
	kinds := []int64{impl.JbWrite, impl.JbRead, impl.JbStart, impl.JbStep, impl.JbFinish, impl.JbCrash}
	checkNumbers(t, "ops", kinds, []int64{1, 2, 3, 4, 5, 6})
}

func TestJobFaultOfChains(t *testing.T) {
	checkText(t, "the disk", impl.DiskOf(jobImages(), "front"), frontDisk())
	for _, job := range append(kindsOfJobs(), impl.Job{}) {
		what := fmt.Sprintf("job %d", job.Kind)
		st := stateOf(job)
		checkJobFault(t, what, st, true)
		for n := range st.Images {
			checkJobFault(t, what+": an image is not right", changedState(st, func(st *impl.JobState) { st.Images[n].Table = nil }), false)
			checkJobFault(t, what+": an image is there twice", changedState(st, func(st *impl.JobState) { st.Images = append(st.Images, st.Images[n]) }), false)
		}
		checkJobFault(t, what+": what is behind is not there", changedState(st, func(st *impl.JobState) { st.Images[0].Back = "none" }), false)
		checkJobFault(t, what+": it comes back to itself", changedState(st, func(st *impl.JobState) { st.Images[1].Back = "base" }), false)
		checkJobFault(t, what+": another image is not right", changedState(st, func(st *impl.JobState) { st.Images = append(st.Images, impl.Image{Name: "a"}) }), false)
		checkJobFault(t, what+": in another order", changedState(st, func(st *impl.JobState) { slices.Reverse(st.Images) }), true)
		for count, right := range map[int]bool{9: true, 10: false, 988: false, 998: false} {
			checkJobFault(t, fmt.Sprintf("%s: %d images more", what, count), changedState(st, func(st *impl.JobState) { st.Images = append(st.Images, rowImages(count)...) }), right)
		}
	}
	checkJobFault(t, "nothing", impl.JobState{}, false)
	checkJobFault(t, "no images", impl.JobState{Active: "front"}, false)
}

func TestJobFaultOfActive(t *testing.T) {
	long := strings.Repeat("x", impl.MaxBytes+1)
	for name, right := range map[string]bool{"front": true, "spare": true, "base": false, "": false, "none": false, "fron": false, "front2": false, "FRONT": false, long: false} {
		checkJobFault(t, fmt.Sprintf("active is %.20q", name), changedState(stateOf(impl.Job{}), func(st *impl.JobState) { st.Active = name }), right)
	}
	for _, back := range []string{"front", "base", "spare"} {
		st := changedState(stateOf(impl.Job{}), func(st *impl.JobState) { st.Images = append(st.Images, twinOf(back)) })
		checkJobFault(t, "a twin ahead of "+back, st, back != "front")
	}
	deep := impl.JobState{Images: rowImages(12), Active: "n0"}
	checkJobFault(t, "the first of a row", deep, true)
	for n := 1; n < 12; n++ {
		deep.Active = fmt.Sprintf("n%d", n)
		checkJobFault(t, "one of a row: "+deep.Active, deep, false)
	}
}

func TestJobFaultOfKinds(t *testing.T) {
	for _, kind := range []int64{-1, 4, 5, 7, 256, 257, 1 << 32, 1<<32 + 1, math.MinInt64, math.MaxInt64} {
		for _, target := range []string{"", "spare"} {
			checkJobFault(t, fmt.Sprintf("kind %d, target %q", kind, target), stateOf(impl.Job{Kind: kind, Target: target}), false)
		}
	}
	for what, job := range map[string]impl.Job{
		"next":               {Next: 1},
		"next below 0":       {Next: -1},
		"target":             {Target: "spare"},
		"target that is not": {Target: "none"},
		"a dirty bit":        {Dirty: "\x01"},
		"a byte 0":           {Dirty: "\x00"},
	} {
		checkJobFault(t, "no kind, but "+what, stateOf(job), false)
	}
}

func TestJobFaultOfNext(t *testing.T) {
	for next, right := range map[int64]bool{-1: false, 0: true, 1: true, 3: true, 4: true, 5: false, 64: false, 1 << 32: false, math.MinInt64: false, math.MaxInt64: false} {
		for _, job := range kindsOfJobs() {
			job.Next = next
			checkJobFault(t, fmt.Sprintf("job %d, next %d", job.Kind, next), stateOf(job), right)
		}
	}
	longer := withImage(stateOf(impl.Job{}), "base", func(m *impl.Image) { m.Table = append(m.Table, -1, -1) })
	for _, job := range kindsOfJobs() {
		for next, right := range map[int64]bool{4: true, 5: false, 6: false} {
			job.Next = next
			longer.Job = job
			checkJobFault(t, fmt.Sprintf("job %d, next %d ahead of a longer one", job.Kind, next), longer, right)
		}
	}
}

func TestJobFaultOfDirty(t *testing.T) {
	for _, job := range kindsOfJobs() {
		for next := range int64(5) {
			job.Next = next
			for bit := range int64(72) {
				job.Dirty = impl.PutBit("", bit, true)
				right := job.Kind != impl.JobStream && bit < next
				checkJobFault(t, fmt.Sprintf("job %d, next %d, bit %d", job.Kind, next, bit), stateOf(job), right)
				job.Dirty = impl.PutBit("\x01", bit, true)
				right = right && next > 0
				checkJobFault(t, fmt.Sprintf("job %d, next %d, bits 0 and %d", job.Kind, next, bit), stateOf(job), right)
			}
			for size, right := range map[int]bool{1: true, 7: true, 8: true, 9: false, 65536: false, 65537: false} {
				job.Dirty = bytes0(size)
				checkJobFault(t, fmt.Sprintf("job %d, next %d, %d bytes 0", job.Kind, next, size), stateOf(job), right)
			}
		}
	}
}

// wideState has 64 clusters in each image.
func wideState(job impl.Job) impl.JobState {
	table := func() []int64 { return slices.Repeat([]int64{-1}, 64) }
	front := impl.Image{Name: "front", Back: "base", Table: table()}
	base := impl.Image{Name: "base", Table: table()}
	spare := impl.Image{Name: "spare", Table: table()}
	return impl.JobState{Images: imagesOf(front, base, spare), Active: "front", Job: job}
}

func TestJobFaultOfWideDirty(t *testing.T) {
	for _, job := range kindsOfJobs()[1:] {
		for bit := range int64(64) {
			job.Dirty = impl.PutBit("", bit, true)
			for _, next := range []int64{0, bit - 1, bit, bit + 1, 63, 64, 65} {
				job.Next = next
				checkJobFault(t, fmt.Sprintf("job %d, next %d, bit %d of 64", job.Kind, next, bit), wideState(job), next > bit && next <= 64)
			}
		}
		job.Next, job.Dirty = 64, strings.Repeat("\xff", 8)
		checkJobFault(t, "all bits", wideState(job), true)
		job.Next = 63
		checkJobFault(t, "all bits, the last one is not done", wideState(job), false)
	}
}

func TestJobFaultOfTargets(t *testing.T) {
	long := strings.Repeat("x", impl.MaxBytes+1)
	for _, target := range []string{"spare", "front", "base", "none", "\x00", long} {
		checkJobFault(t, fmt.Sprintf("a stream to %.20q", target), stateOf(impl.Job{Kind: impl.JobStream, Target: target}), false)
		checkJobFault(t, fmt.Sprintf("a commit to %.20q", target), stateOf(impl.Job{Kind: impl.JobCommit, Target: target}), false)
		checkJobFault(t, fmt.Sprintf("a mirror to %.20q", target), stateOf(impl.Job{Kind: impl.JobMirror, Target: target}), target == "spare")
	}
	mirror := stateOf(impl.Job{Kind: impl.JobMirror, Target: "spare"})
	checkJobFault(t, "a mirror to none", stateOf(impl.Job{Kind: impl.JobMirror}), false)
	checkJobFault(t, "it is behind another one", changedState(mirror, func(st *impl.JobState) { st.Images = append(st.Images, twinOf("spare")) }), false)
	checkJobFault(t, "another one is behind another one", changedState(mirror, func(st *impl.JobState) { st.Images = append(st.Images, twinOf("base")) }), true)
	checkJobFault(t, "it has a Back", withImage(mirror, "spare", func(m *impl.Image) { m.Back = "base" }), false)
	checkJobFault(t, "it has a Snap", withImage(mirror, "spare", func(m *impl.Image) { m.Snaps = []impl.Snap{snapOf("old", -1, -1, -1, -1)} }), false)
	checkJobFault(t, "it has fewer clusters", withImage(mirror, "spare", func(m *impl.Image) { m.Table = m.Table[:3] }), false)
	checkJobFault(t, "it has more clusters", withImage(mirror, "spare", func(m *impl.Image) { m.Table = append(m.Table, -1) }), false)
	checkJobFault(t, "it is Active's Back alone", changedState(mirror, func(st *impl.JobState) { st.Job.Target = "base" }), false)
	checkJobFault(t, "Active has no Back", withImage(mirror, "front", func(m *impl.Image) { m.Back = "" }), true)
	checkJobFault(t, "Active has a Snap", withImage(mirror, "front", func(m *impl.Image) { m.Snaps = []impl.Snap{snapOf("old", -1, -1, -1, -1)} }), true)
}

// What JbStart asks for and is so no more; and what it does not ask for.
func TestJobFaultOfWhatIsAskedFor(t *testing.T) {
	twin := func(st *impl.JobState) { st.Images = append(st.Images, twinOf("base")) }
	image := func(name string, change func(m *impl.Image)) func(st *impl.JobState) {
		return func(st *impl.JobState) { *st = withImage(*st, name, change) }
	}
	snap := func(m *impl.Image) {
		m.Snaps = []impl.Snap{{Name: "old", Table: slices.Repeat([]int64{-1}, len(m.Table))}}
	}
	for _, c := range []struct {
		what           string
		change         func(st *impl.JobState)
		stream, commit bool
	}{
		{"as it is", func(st *impl.JobState) {}, true, true},
		{"no Back", image("front", func(m *impl.Image) { m.Back = "" }), false, false},
		{"another one has that Back", twin, true, false},
		{"Active has a Snap", image("front", snap), true, false},
		{"the one behind has a Snap", image("base", snap), true, true},
		{"spare has a Snap", image("spare", snap), true, true},
		{"the one behind has fewer clusters", image("base", func(m *impl.Image) { m.Table, m.Data = m.Table[:3], m.Data[:2] }), true, false},
		{"the one behind has more clusters", image("base", func(m *impl.Image) { m.Table = append(m.Table, -1) }), true, true},
		{"Active has more clusters", image("front", func(m *impl.Image) { m.Table = append(m.Table, -1) }), true, false},
		{"Active has fewer clusters", image("front", func(m *impl.Image) { m.Table = m.Table[:3] }), true, true},
		{"the one behind has a Back", image("base", func(m *impl.Image) { m.Back = "spare" }), true, true},
	} {
		for next := range int64(4) {
			stream := changedState(stateOf(impl.Job{Kind: impl.JobStream, Next: next}), c.change)
			checkJobFault(t, c.what+", a stream", stream, c.stream)
			commit := changedState(stateOf(impl.Job{Kind: impl.JobCommit, Next: next}), c.change)
			checkJobFault(t, c.what+", a commit", commit, c.commit)
		}
	}
}

// spoilState makes of a state with a job, somewhere, one that is perhaps not right.
func spoilState(rng *rand.Rand, st impl.JobState) impl.JobState {
	return changedState(st, func(st *impl.JobState) {
		m := &st.Images[rng.Intn(len(st.Images))]
		switch rng.Intn(12) {
		case 0:
			st.Job.Kind = oneOf(rng, -1, 0, 1, 2, 3, 4)
		case 1:
			st.Job.Next += oneOf(rng, -1, 1, 2, -64, 64)
		case 2:
			st.Job.Dirty = impl.PutBit(st.Job.Dirty, rng.Int63n(72), true)
		case 3:
			st.Job.Dirty += bytes0(rng.Intn(9))
		case 4:
			st.Job.Target = []string{"", "spare", "act", "back-0", "none"}[rng.Intn(5)]
		case 5:
			st.Active = []string{"", "spare", "back-0", "twin", "none"}[rng.Intn(5)]
		case 6:
			m.Back = []string{"", "spare", "act", "back-0", "none"}[rng.Intn(5)]
		case 7:
			m.Snaps = append(m.Snaps, impl.Snap{Name: "snap", Table: slices.Clone(m.Table)})
		case 8:
			m.Snaps = nil
		case 9:
			m.Table = append(m.Table, -1)
		case 10:
			st.Images = append(st.Images, twinOf([]string{"", "spare", "act", "back-0"}[rng.Intn(4)]))
		}
	})
}

func TestP26StatesThatAreRightOrNot(t *testing.T) {
	rng := rand.New(rand.NewSource(1428))
	right := 0
	for n := range 400 {
		st := randomJobState(rng)
		for range 1 + rng.Intn(8) {
			st = impl.RunJobs(st, []impl.JobOp{randomJobOp(rng, st)}).State
		}
		for range 1 + rng.Intn(2) {
			st = spoilState(rng, st)
		}
		isRight := plainJobRight(st)
		if isRight {
			right++
		}
		checkJobFault(t, "a state", st, isRight)
		if t.Failed() {
			t.Fatalf("state %d: %s", n, jobText(st))
		}
	}
	if !among(int64(right), 80, 320) {
		t.Errorf("%d of 400 states are right", right)
	}
}

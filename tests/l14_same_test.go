package tests

import (
	"fmt"
	"math/rand"
	"testing"

	"loop.example/g00038/impl"
)

// phaseOf names how far a job has come.
func phaseOf(st impl.JobState) string {
	if st.Job.Kind == 0 {
		return "none"
	}
	clusters := int64(len(imageNamed(st.Images, st.Active).Table))
	phase := "half"
	switch {
	case st.Job.Next == 0:
		phase = "begun"
	case st.Job.Next == clusters && len(plainBits(st.Job.Dirty)) > 0:
		phase = "dirty"
	case st.Job.Next == clusters:
		phase = "done"
	}
	return fmt.Sprintf("%d %s", st.Job.Kind, phase)
}

// jobEvents are what an op met with: the job at work, its code, and where a write lies.
func jobEvents(st impl.JobState, op impl.JobOp, code int64) []string {
	kind := min(max(op.Kind, 0), 7)
	events := []string{fmt.Sprintf("op %d job %s code %d", kind, phaseOf(st), code)}
	switch {
	case op.Kind == impl.JbStart:
		events = append(events, fmt.Sprintf("start of %d code %d", op.Job, code))
	case op.Kind == impl.JbWrite && code == impl.OK && phaseOf(st) == fmt.Sprintf("%d half", st.Job.Kind):
		end := 16 * st.Job.Next
		below, behind := op.At < end, op.At+int64(len(op.Text)) > end
		events = append(events, fmt.Sprintf("write in %d below %v behind %v", st.Job.Kind, below, behind))
	case op.Kind == impl.JbFinish && code == impl.OK:
		m := imageNamed(st.Images, st.Active)
		longer := len(imageNamed(st.Images, m.Back).Table) > len(m.Table)
		events = append(events, fmt.Sprintf("finish of %d longer %v", st.Job.Kind, longer))
	}
	return events
}

func wantedJobEvents() []string {
	wanted := []string{
		"op 0 job none code 1", "op 7 job 1 half code 1", "op 7 job 2 half code 1", "op 7 job 3 half code 1",
		"op 1 job none code 0", "op 1 job none code 2", "op 1 job none code 4", "op 1 job 1 half code 4", "op 2 job none code 0", "op 2 job none code 2",
		"op 4 job none code 6", "op 5 job none code 6", "op 6 job none code 6",
		"op 4 job 1 begun code 4", "op 4 job 1 half code 4", "op 4 job 2 begun code 4", "op 4 job 2 half code 4",
		"start of 0 code 1", "start of 4 code 1", "start of -1 code 1", "start of 1 code 0", "start of 1 code 1", "start of 1 code 5", "start of 1 code 6",
		"start of 2 code 0", "start of 2 code 1", "start of 2 code 2", "start of 2 code 5", "start of 2 code 6", "start of 2 code 7",
		"start of 3 code 0", "start of 3 code 1", "start of 3 code 2", "start of 3 code 5", "start of 3 code 6", "start of 3 code 7",
		"finish of 1 longer false", "finish of 1 longer true", "finish of 2 longer false", "finish of 2 longer true", "finish of 3 longer false", "finish of 3 longer true",
	}
	for kind := 1; kind <= 3; kind++ {
		for _, phase := range []string{"begun", "half", "dirty", "done"} {
			if kind == 1 && phase == "dirty" {
				continue
			}
			finish := map[bool]int64{true: impl.OK, false: impl.ErrState}[phase == "done"]
			for op, code := range map[int64]int64{1: 0, 2: 0, 3: impl.ErrState, 4: 0, 5: finish, 6: 0} {
				wanted = append(wanted, fmt.Sprintf("op %d job %d %s code %d", op, kind, phase, code))
			}
			wanted = append(wanted, fmt.Sprintf("op 4 job %d %s code 1", kind, phase), fmt.Sprintf("op 1 job %d %s code 2", kind, phase))
		}
		for _, where := range []string{"below true behind false", "below true behind true", "below false behind true"} {
			wanted = append(wanted, fmt.Sprintf("write in %d %s", kind, where))
		}
	}
	return wanted
}

// noteJobOp is what an op that was done makes of the guest's row: a write its bytes, and the end of a commit what the one behind has further on.
func noteJobOp(row string, st impl.JobState, op impl.JobOp) string {
	switch {
	case op.Kind == impl.JbWrite:
		return row[:op.At] + op.Text + row[op.At+int64(len(op.Text)):]
	case op.Kind == impl.JbFinish && st.Job.Kind == impl.JobCommit:
		behind := impl.DiskOf(st.Images, imageNamed(st.Images, st.Active).Back)
		return row + behind[len(row):]
	}
	return row
}

// checkGuest holds what the guest reads, as a whole and through an op, to its row of bytes.
func checkGuest(t *testing.T, what string, st impl.JobState, row string) {
	t.Helper()
	checkNumber(t, what+": JobFault", impl.JobFault(st), impl.OK)
	checkText(t, what+": DiskOf", impl.DiskOf(st.Images, st.Active), row)
	read := impl.RunJobs(st, []impl.JobOp{jobRead(0, int64(len(row)))})
	if len(read.Outs) != 1 || read.Outs[0].Data != row {
		t.Errorf("%s: the guest reads %+v, not %q", what, read.Outs, row)
	}
}

// checkImagesBeside holds that an op changes no image but Active, and but the one that a step writes to.
func checkImagesBeside(t *testing.T, st impl.JobState, op impl.JobOp, now impl.JobState) {
	t.Helper()
	may := map[string]bool{st.Active: true}
	if op.Kind == impl.JbStep {
		may[st.Active] = st.Job.Kind == impl.JobStream
		may[imageNamed(st.Images, st.Active).Back] = st.Job.Kind == impl.JobCommit
		may[st.Job.Target] = st.Job.Kind == impl.JobMirror
	}
	for _, m := range st.Images {
		if is := imageNamed(now.Images, m.Name); !may[m.Name] && !sameImage(is, m) {
			t.Errorf("an image beside: got %s\nwant %s", imageText(is), imageText(m))
		}
	}
}

// Op by op: what the guest reads, the state, and the whole of it against the plain one; then all ops at once, and in two parts.
func TestP26GuestsReadOneRowOfBytes(t *testing.T) {
	rng := rand.New(rand.NewSource(1426))
	met := map[string]int{}
	for n := range 1200 {
		first := randomJobState(rng)
		st := first
		row := impl.DiskOf(st.Images, st.Active)
		var ops []impl.JobOp
		var outs []impl.JobOut
		for range 40 {
			op := randomJobOp(rng, st)
			run := checkJobs(t, "an op", st, []impl.JobOp{op})
			if t.Failed() {
				t.Fatalf("state %d, op %+v of %s", n, op, jobText(st))
			}
			out := run.Outs[0]
			if out.Code == impl.OK {
				row = noteJobOp(row, st, op)
			} else if op.Kind != impl.JbStep {
				checkJobState(t, "an op with a code", run.State, st)
			}
			checkImagesBeside(t, st, op, run.State)
			for _, event := range jobEvents(st, op, out.Code) {
				met[event]++
			}
			st, ops, outs = run.State, append(ops, op), append(outs, out)
			checkGuest(t, "behind it", st, row)
		}
		whole := checkJobs(t, "all ops", first, ops)
		checkJobOuts(t, "all ops", whole.Outs, outs)
		checkJobState(t, "all ops", whole.State, st)
		cut := rng.Intn(len(ops) + 1)
		half := impl.RunJobs(first, ops[:cut])
		rest := impl.RunJobs(half.State, ops[cut:])
		checkJobOuts(t, "in two parts", append(half.Outs, rest.Outs...), outs)
		checkJobState(t, "in two parts", rest.State, st)
	}
	for _, event := range wantedJobEvents() {
		if met[event] < 10 {
			t.Errorf("%s: met with %d times", event, met[event])
		}
	}
}

// A job that crashes wherever it is, and begins anew, comes to its end with the guest's row.
func TestP26JobsThatCrash(t *testing.T) {
	rng := rand.New(rand.NewSource(1427))
	for n := range 150 {
		st := randomJobState(rng)
		kind := oneOf(rng, 1, 2, 3)
		target := map[int64]string{3: "spare"}[kind]
		if plainStart(st.Images, st.Active, kind, target) != impl.OK {
			continue
		}
		row := impl.DiskOf(st.Images, st.Active)
		for range 4 {
			ops := []impl.JobOp{jobStart(kind, target)}
			for range rng.Intn(6) {
				ops = append(ops, jobStep(1+rng.Int63n(20)), jobWrite(rng.Int63n(int64(len(row))), "!"))
			}
			ops = append(ops, jobCrash())
			run := checkJobs(t, "up to a crash", st, ops)
			for at, out := range run.Outs {
				if out.Code == impl.OK {
					row = noteJobOp(row, st, ops[at])
				}
			}
			st = run.State
			checkGuest(t, "behind a crash", st, row)
			checkAlike(t, "behind a crash", st.Job, impl.Job{})
		}
		run := checkJobs(t, "anew", st, []impl.JobOp{jobStart(kind, target), jobStep(64), jobFinish()})
		if run.Outs[1].Code == impl.OK {
			checkNumber(t, "anew: finished", run.Outs[2].Code, impl.OK)
			st.Job.Kind = kind
			row = noteJobOp(row, st, jobFinish())
		}
		checkGuest(t, "anew", run.State, row)
		if t.Failed() {
			t.Fatalf("state %d, job %d", n, kind)
		}
	}
}

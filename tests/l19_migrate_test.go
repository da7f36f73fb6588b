package tests

import (
	"fmt"
	"slices"
	"strings"
	"testing"

	"loop.example/g00038/impl"
)

// roundText goes on for ever and writes nothing.
const roundText = "top:\n addi r3, r3, 1\n eq r0, r0, @top\n"

func idle(count int) string {
	return strings.Repeat("addi r3, r3, 1\n", count)
}

func eachFrame(line string, frames []int64) string {
	text := ""
	for _, number := range frames {
		text += fmt.Sprintf("%s, r0, %d\n", line, 256*number+200)
	}
	return text
}

// put writes a byte that is not 0 to each of these frames, where it was 0; wipe writes 0 there, and get reads it.
func put(frames ...int64) string { return eachFrame("storeb r1", frames) }

func wipe(frames ...int64) string { return eachFrame("storeb r0", frames) }

func get(frames ...int64) string { return eachFrame("loadb r4", frames) }

// moveGuest has its code in frame 0; behind the text it goes round.
func moveGuest(t *testing.T, frames int, text string) impl.Machine {
	t.Helper()
	m := loadMachine(t, frames, text+roundText)
	m.Regs[1] = 5
	return m
}

func withPost(plan impl.MovePlan) impl.MovePlan {
	plan.Post = true
	return plan
}

func withFail(plan impl.MovePlan, failAt int64) impl.MovePlan {
	plan.FailAt = failAt
	return plan
}

func TestFramesAreSentBatchATick(t *testing.T) {
	m := moveGuest(t, 6, "")
	for batch, ticks := range map[int64]int64{1: 6, 2: 3, 3: 2, 4: 2, 5: 2, 6: 1, 7: 1, 12: 1, 255: 1, 256: 1} {
		plan := impl.MovePlan{Batch: batch, Pace: 2, FailAt: -1}
		what := fmt.Sprintf("Batch %d", batch)
		all, more := 2*ticks, 2*ticks+5
		none := []int64{0}
		checkMoved(t, what+", no steps", m, plan, 0, moved{impl.PlaceThere, 0, ticks + 1, 6, 1, 0, none})
		checkMoved(t, what+", all steps in the first part", m, plan, all, moved{impl.PlaceThere, all, ticks + 1, 6, 1, 0, none})
		checkMoved(t, what+", steps left", m, plan, more, moved{impl.PlaceThere, more, ticks + 4, 6, 1, 0, none})
		plan.Post = true
		checkMoved(t, what+", no steps, with Post", m, plan, 0, moved{impl.PlaceThere, 0, ticks, 6, 0, 0, none})
		checkMoved(t, what+", all steps in the first part, with Post", m, plan, all, moved{impl.PlaceThere, all, ticks, 6, 0, 0, none})
		checkMoved(t, what+", steps left, with Post", m, plan, more, moved{impl.PlaceThere, more, ticks + 3, 6, 0, 0, none})
	}
}

// Frame 2 of four is sent in tick 2: it is dirty if it is written to in that tick or behind it, and not ahead of it.
func TestAFrameThatIsWrittenToAroundItsSending(t *testing.T) {
	plan := impl.MovePlan{Batch: 1, Pace: 1, FailAt: -1}
	for step, dirty := range []int64{0, 0, 1, 1, 0} {
		m := moveGuest(t, 4, idle(step)+put(2))
		checkMoved(t, fmt.Sprintf("step %d", step), m, plan, 4, moved{impl.PlaceThere, 4, 5, 4 + dirty, 1, 0, []int64{dirty}})
	}
	m := moveGuest(t, 4, put(2, 1)+wipe(2))
	checkMoved(t, "ahead, and in its tick", m, plan, 4, moved{impl.PlaceThere, 4, 6, 6, 2, 0, []int64{2}})
	m = moveGuest(t, 4, put(1, 2))
	checkMoved(t, "two, each in the tick ahead", m, plan, 4, moved{impl.PlaceThere, 4, 5, 4, 1, 0, []int64{0}})
	m = moveGuest(t, 4, put(0, 1, 2, 3))
	checkMoved(t, "all, each in its tick", m, plan, 4, moved{impl.PlaceThere, 4, 8, 8, 4, 0, []int64{4}})
}

// The first round ends with the frames 1, 2 and 3 dirty, which are sent again in the ticks 4, 5 and 6.
func TestAFrameThatIsWrittenToInALaterRound(t *testing.T) {
	plan := impl.MovePlan{Batch: 1, Pace: 1, Rounds: 1, FailAt: -1}
	for text, dirty := range map[string]int64{
		idle(3):           0,
		wipe(3) + idle(2): 0, // ahead of its tick
		wipe(3, 3):        0,
		wipe(2, 3):        0,
		wipe(3) + put(3):  0,
		wipe(1) + idle(2): 1, // in its tick
		idle(1) + wipe(2): 1,
		idle(2) + wipe(3): 1,
		idle(1) + wipe(1): 1, // behind its tick
		idle(2) + wipe(2): 1,
		put(0) + idle(2):  1, // not to be sent again in this round
	} {
		m := moveGuest(t, 4, idle(1)+put(1, 2, 3)+text)
		checkMoved(t, text, m, plan, 7, moved{impl.PlaceThere, 7, 8, 7 + dirty, 1, 0, []int64{3, dirty}})
	}
}

// What counts is the tick, not the write: a frame that is as it was behind a tick's steps is none that is dirty by them.
func TestAFrameThatIsAsItWas(t *testing.T) {
	m := moveGuest(t, 4, put(1)+wipe(1))
	checkMoved(t, "behind one tick", m, impl.MovePlan{Batch: 4, Pace: 2, FailAt: -1}, 2, moved{impl.PlaceThere, 2, 2, 4, 1, 0, []int64{0}})
	checkMoved(t, "not yet", m, impl.MovePlan{Batch: 4, Pace: 1, FailAt: -1}, 2, moved{impl.PlaceThere, 2, 3, 5, 1, 0, []int64{1}})
	checkMoved(t, "behind two ticks", m, impl.MovePlan{Batch: 2, Pace: 1, FailAt: -1}, 2, moved{impl.PlaceThere, 2, 3, 5, 1, 0, []int64{1}})
	m = moveGuest(t, 4, wipe(1, 2))
	checkMoved(t, "what was there already", m, impl.MovePlan{Batch: 2, Pace: 1, FailAt: -1}, 2, moved{impl.PlaceThere, 2, 3, 4, 1, 0, []int64{0}})
}

// Flags that a lookup puts make a table dirty, and so does the rest of a vector the frame behind.
func TestFramesThatAreDirtyByTheWay(t *testing.T) {
	plan := impl.MovePlan{Batch: 6, Pace: 1, FailAt: -1}
	m := orderMachine(t, "addi r5, r5, 1\nstore r1, r2, 0", 0)
	m.Regs[1] = 99
	checkMoved(t, "A of a fetch", m, plan, 1, moved{impl.PlaceThere, 1, 2, 7, 1, 0, []int64{1}})
	m.Pc = 4
	checkMoved(t, "A of a fetch, A and D of a store", m, plan, 1, moved{impl.PlaceThere, 1, 2, 9, 1, 0, []int64{3}})
	m.Mem = withEntries(m.Mem, tableEntry{1, 0, 2, flagV | flagR | flagX | flagA})
	checkMoved(t, "A and D of a store", m, plan, 1, moved{impl.PlaceThere, 1, 2, 8, 1, 0, []int64{2}})
	m = vectorMachine(t, "addi r1, r1, 1", "halt")
	checkMoved(t, "a vector in two frames", m, impl.MovePlan{Batch: 4, Pace: 2, FailAt: -1}, 2, moved{impl.PlaceThere, 2, 2, 6, 1, 0, []int64{2}})
}

// pairMachine makes its frames 1 and 2 dirty in each tick of four steps.
func pairMachine(t *testing.T) impl.Machine {
	t.Helper()
	return loadMachine(t, 4, "top:\n addi r1, r1, 1\n storeb r1, r0, 456\n storeb r1, r0, 712\n eq r0, r0, @top\n")
}

func TestRoundsEndAtSmall(t *testing.T) {
	plan := impl.MovePlan{Batch: 4, Pace: 4, Rounds: 5, FailAt: -1}
	for small, rounds := range map[int64]int{0: 6, 1: 6, 2: 1, 3: 1, 4: 1, 256: 1} {
		plan.Small = small
		want := moved{impl.PlaceThere, 40, 11, 4 + 2*int64(rounds), 1, 0, slices.Repeat([]int64{2}, rounds)}
		checkMoved(t, fmt.Sprintf("Small %d", small), pairMachine(t), plan, 40, want)
	}
	m := moveGuest(t, 4, put(1, 2, 3)+wipe(1, 2)+idle(1)+put(1)+idle(2))
	plan = impl.MovePlan{Batch: 4, Pace: 3, Rounds: 20, FailAt: -1}
	for small, want := range map[int64]moved{
		0: {impl.PlaceThere, 12, 5, 10, 1, 0, []int64{3, 2, 1, 0}},
		1: {impl.PlaceThere, 12, 5, 10, 1, 0, []int64{3, 2, 1}},
		2: {impl.PlaceThere, 12, 5, 9, 1, 0, []int64{3, 2}},
		3: {impl.PlaceThere, 12, 5, 7, 1, 0, []int64{3}},
	} {
		plan.Small = small
		checkMoved(t, fmt.Sprintf("fewer each time, Small %d", small), m, plan, 12, want)
	}
}

func TestRoundsEndAtRounds(t *testing.T) {
	for _, rounds := range []int64{0, 1, 2, 19, 20} {
		plan := impl.MovePlan{Batch: 4, Pace: 4, Rounds: rounds, FailAt: -1}
		told := slices.Repeat([]int64{2}, int(rounds)+1)
		checkMoved(t, "without Post", pairMachine(t), plan, 100, moved{impl.PlaceThere, 100, 26, 6 + 2*rounds, 1, 0, told})
		checkMoved(t, "with Post", pairMachine(t), withPost(plan), 100, moved{impl.PlaceThere, 100, 25, 6 + 2*rounds, 0, 2, told})
	}
}

func TestAGuestThatHaltsInTheFirstPart(t *testing.T) {
	m := moveGuest(t, 4, put(1)+"halt\n")
	plan := impl.MovePlan{Batch: 1, Pace: 2, Rounds: 3, FailAt: -1}
	checkMoved(t, "in the first tick", m, plan, 100, moved{impl.PlaceThere, 2, 5, 4, 1, 0, []int64{0}})
	checkMoved(t, "in the first tick, with Post", m, withPost(plan), 100, moved{impl.PlaceThere, 2, 4, 4, 0, 0, []int64{0}})
	plan.Batch = 4
	checkMoved(t, "with a frame that is sent again", m, plan, 100, moved{impl.PlaceThere, 2, 3, 5, 1, 0, []int64{1, 0}})
	checkMoved(t, "with a frame that is sent again, with Post", m, withPost(plan), 100, moved{impl.PlaceThere, 2, 2, 5, 0, 0, []int64{1, 0}})
	plan.Rounds = 0
	checkMoved(t, "in the last tick", m, plan, 100, moved{impl.PlaceThere, 2, 2, 5, 1, 0, []int64{1}})
	checkMoved(t, "in the last tick, with Post", m, withPost(plan), 100, moved{impl.PlaceThere, 2, 2, 5, 0, 0, []int64{1}})
	m.State = impl.StateHalt
	checkMoved(t, "ahead of all", m, plan, 100, moved{impl.PlaceThere, 0, 2, 4, 1, 0, []int64{0}})
	checkMoved(t, "ahead of all, with Post", m, withPost(plan), 100, moved{impl.PlaceThere, 0, 1, 4, 0, 0, []int64{0}})
	m.State = impl.StateWait
	checkMoved(t, "one that waits", m, plan, 100, moved{impl.PlaceThere, 100, 51, 4, 1, 0, []int64{0}})
}

// dirtyMachine has six frames; behind the second tick of ten steps as many of them as told are dirty.
func dirtyMachine(t *testing.T, dirty int) impl.Machine {
	t.Helper()
	return moveGuest(t, 6, idle(10)+put(inARow(1, dirty)...))
}

// dirtyPlan sends six frames in two ticks.
func dirtyPlan() impl.MovePlan {
	return impl.MovePlan{Batch: 3, Pace: 10, FailAt: -1}
}

func TestTheGuestIsStoppedForItsDirtyFrames(t *testing.T) {
	for dirty, down := range []int64{1, 1, 1, 1, 2, 2} {
		sent, told := int64(6+dirty), []int64{int64(dirty)}
		for steps, ticks := range map[int64]int64{20: 0, 21: 1, 30: 1, 31: 2, 35: 2, 40: 2, 41: 3} {
			what := fmt.Sprintf("%d dirty, %d steps", dirty, steps)
			checkMoved(t, what, dirtyMachine(t, dirty), dirtyPlan(), steps, moved{impl.PlaceThere, steps, 2 + down + ticks, sent, down, 0, told})
		}
	}
	m := moveGuest(t, 6, idle(10)+put(1, 2, 3, 4)+idle(6)+put(0)+"halt\n")
	checkMoved(t, "one that halts there", m, dirtyPlan(), 100, moved{impl.PlaceThere, 22, 5, 10, 2, 0, []int64{4}})
}

func TestFramesThatLackAreSentBehindTheSteps(t *testing.T) {
	for dirty, ticks := range []int64{0, 1, 1, 1, 2, 2} {
		sent, told := int64(6+dirty), []int64{int64(dirty)}
		for steps, least := range map[int64]int64{20: 0, 21: 1, 30: 1, 31: 2, 40: 2, 41: 3} {
			what := fmt.Sprintf("%d lack, %d steps", dirty, steps)
			checkMoved(t, what, dirtyMachine(t, dirty), withPost(dirtyPlan()), steps, moved{impl.PlaceThere, steps, 2 + max(ticks, least), sent, 0, 0, told})
		}
	}
	m := moveGuest(t, 6, idle(50)+put(1, 2, 3, 4, 5))
	plan := impl.MovePlan{Batch: 1, Pace: 10, Post: true, FailAt: -1}
	checkMoved(t, "nothing left to be done but to send", m, plan, 60, moved{impl.PlaceThere, 60, 11, 11, 0, 0, []int64{5}})
	checkMoved(t, "little left to be done but to send", m, plan, 75, moved{impl.PlaceThere, 75, 11, 11, 0, 0, []int64{5}})
	m = moveGuest(t, 6, idle(50)+put(1, 2, 3, 4, 5)+"halt\n")
	checkMoved(t, "one that halts", m, plan, 100, moved{impl.PlaceThere, 56, 11, 11, 0, 0, []int64{5}})
}

// The frames 1, 2 and 3 lack; all that are not fetched are sent behind the three steps.
func TestFramesThatAStepTouchesAreFetched(t *testing.T) {
	plan := impl.MovePlan{Batch: 4, Pace: 3, Post: true, FailAt: -1}
	for text, faults := range map[string]int64{
		idle(3): 0, get(2, 2) + idle(1): 1, get(2) + put(2) + idle(1): 1, get(1, 2, 3): 3, get(3, 1, 3): 2,
		wipe(2) + idle(2): 1, put(1) + wipe(1, 1): 1, get(0, 0, 0): 0, "load r4, r0, 1024\n" + idle(2): 0, "store r4, r0, 513\n" + idle(2): 0,
		"jump r0, r0, 0\n" + idle(2): 2, "store r4, r0, 1020\n" + idle(2): 1, "load r4, r0, 256\n" + idle(2): 1, "storeb r4, r0, 511\n" + idle(2): 1,
	} {
		m := moveGuest(t, 4, put(1, 2, 3)+text)
		m.Ctl[impl.CtlVector] = 12 + 4
		checkMoved(t, text, m, plan, 6, moved{impl.PlaceThere, 6, 2, 7, 0, faults, []int64{3}})
	}
}

// Frame 3 is fetched, frame 1 comes by itself, frame 2 is fetched in the next tick.
func TestFramesThatAreFetchedAndFramesThatAreSent(t *testing.T) {
	m := moveGuest(t, 4, idle(9)+put(1, 2, 3)+get(3)+idle(2)+get(1, 2)+idle(1))
	plan := impl.MovePlan{Batch: 1, Pace: 3, Post: true, FailAt: -1}
	checkMoved(t, "one tick", m, plan, 15, moved{impl.PlaceThere, 15, 6, 7, 0, 1, []int64{3}})
	checkMoved(t, "two ticks", m, plan, 18, moved{impl.PlaceThere, 18, 6, 7, 0, 2, []int64{3}})
	checkMoved(t, "and on", m, plan, 22, moved{impl.PlaceThere, 22, 8, 7, 0, 2, []int64{3}})
}

func TestFramesOfBothAccessesOfAStep(t *testing.T) {
	plan := impl.MovePlan{Batch: 4, Pace: 2, Post: true, FailAt: -1}
	for text, faults := range map[string]int64{get(1): 2, put(1): 2, get(0): 1, idle(1): 1, get(2): 1, "sys\n": 1, ".word 0\n": 1} {
		m := moveGuest(t, 4, put(0, 1)+text)
		checkMoved(t, text, m, plan, 3, moved{impl.PlaceThere, 3, 2, 6, 0, faults, []int64{2}})
	}
	m := moveGuest(t, 4, put(0)+"wait\n")
	checkMoved(t, "steps that touch nothing", m, plan, 10, moved{impl.PlaceThere, 10, 5, 5, 0, 0, []int64{1}})
	m.Ctl[impl.CtlEnable], m.Ctl[impl.CtlTimer], m.Ctl[impl.CtlStatus], m.Ctl[impl.CtlVector] = 0x80, 3, impl.StatusOn, 512
	checkMoved(t, "a trap by the timer", m, plan, 3, moved{impl.PlaceThere, 3, 2, 5, 0, 0, []int64{1}})
}

// The tables 1 (of the code) and 0 (of the data), and the data's frame 4 lack.
func TestTablesThatAStepTouchesAreFetched(t *testing.T) {
	plan := impl.MovePlan{Batch: 6, Pace: 1, Post: true, FailAt: -1}
	for text, faults := range map[string]int64{
		"load r5, r2, 4": 3, "store r5, r2, 4": 3, "storeb r5, r2, 255": 3, "load r5, r2, 256": 2, "load r5, r0, 0": 1,
		"addi r5, r5, 1": 1, "load r5, r2, 2": 1, "sys": 1, "load r5, r4, 0": 1,
	} {
		m := orderMachine(t, "store r1, r2, 0\n"+text, 0)
		m.Regs[1], m.Regs[4] = 99, 262144
		checkMoved(t, text, m, plan, 2, moved{impl.PlaceThere, 2, 2, 9, 0, faults, []int64{3}})
	}
	m := orderMachine(t, "store r1, r2, 0\naddi r5, r5, 1", 0)
	m.Regs[1], m.Regs[5], m.Ctl[impl.CtlTable] = 99, 7, 3
	checkMoved(t, "two that are not touched", m, plan, 2, moved{impl.PlaceThere, 2, 2, 9, 0, 1, []int64{3}})
	m.Mem = withEntries(m.Mem, tableEntry{1, 0, 2, flagV | flagR | flagX | flagA})
	checkMoved(t, "none that is touched", m, plan, 2, moved{impl.PlaceThere, 2, 2, 8, 0, 0, []int64{2}})
}

// One access touches the frame of its place alone; the rest of a vector that is put into a frame that lacks is there
// with it, however it comes.
func TestP37OfAVectorInAFrameThatLacks(t *testing.T) {
	plan := impl.MovePlan{Batch: 4, Pace: 2, Post: true, FailAt: -1}
	for text, faults := range map[string]int64{
		"vstore v1, r2\n" + idle(1): 1, "vstore v1, r2\nload r5, r0, 512\n": 2, "vstore v1, r2\nvstore v1, r2\n": 1,
		"vload v2, r2\n" + idle(1): 1, "vload v2, r2\nload r5, r0, 512\n": 2, "load r5, r0, 512\nvstore v1, r2\n": 2,
		"vstore v1, r2\nstore r1, r0, 520\n": 2, "vload v2, r2\nvstore v2, r6\n": 1,
	} {
		m := moveGuest(t, 4, put(1, 2)+text)
		m.Ctl[impl.CtlStatus], m.Regs[2], m.Regs[6] = impl.StatusVec, 504, 768
		m.Vec[4], m.Vec[5], m.Vec[6], m.Vec[7] = 11, 12, 13, 14
		got := checkMoved(t, text, m, plan, 4, moved{impl.PlaceThere, 4, 2, 6, 0, faults, []int64{2}})
		if strings.Contains(text, "vstore v1") {
			checkNumbers(t, text, []int64{wordAt(got.Machine.Mem, 508), wordAt(got.Machine.Mem, 512)}, []int64{12, 13})
		}
	}
}

// The six frames are sent in the ticks 0 and 1, four dirty ones in 2 and 3, and the guest is there from tick 4 on.
func TestP37ALinkThatFailsWithoutPost(t *testing.T) {
	four := []int64{4}
	for failAt, want := range map[int64]moved{
		-1:      {impl.PlaceThere, 35, 6, 10, 2, 0, four},
		0:       {impl.PlaceHere, 35, 4, 0, 0, 0, nil},
		1:       {impl.PlaceHere, 35, 4, 3, 0, 0, nil},
		2:       {impl.PlaceHere, 35, 4, 6, 0, 0, four},
		3:       {impl.PlaceHere, 35, 5, 9, 1, 0, four},
		4:       {impl.PlaceThere, 35, 6, 10, 2, 0, four},
		5:       {impl.PlaceThere, 35, 6, 10, 2, 0, four},
		6:       {impl.PlaceThere, 35, 6, 10, 2, 0, four},
		1 << 62: {impl.PlaceThere, 35, 6, 10, 2, 0, four},
	} {
		checkMoved(t, fmt.Sprintf("FailAt %d", failAt), dirtyMachine(t, 4), withFail(dirtyPlan(), failAt), 35, want)
	}
	for failAt, want := range map[int64]moved{
		1: {impl.PlaceHere, 35, 4, 3, 0, 0, nil}, 2: {impl.PlaceHere, 35, 4, 6, 0, 0, []int64{0}},
		3: {impl.PlaceThere, 35, 5, 6, 1, 0, []int64{0}}, 4: {impl.PlaceThere, 35, 5, 6, 1, 0, []int64{0}},
	} {
		checkMoved(t, fmt.Sprintf("nobody dirty, FailAt %d", failAt), dirtyMachine(t, 0), withFail(dirtyPlan(), failAt), 35, want)
	}
}

// With Post the guest is there from tick 2 on; its four frames that lack have come with tick 3.
func TestP37ALinkThatFailsWithPost(t *testing.T) {
	four, plan := []int64{4}, withPost(dirtyPlan())
	for failAt, want := range map[int64]moved{
		-1: {impl.PlaceThere, 55, 6, 10, 0, 0, four},
		0:  {impl.PlaceHere, 55, 6, 0, 0, 0, nil},
		1:  {impl.PlaceHere, 55, 6, 3, 0, 0, nil},
		2:  {impl.PlaceLost, 20, 3, 6, 0, 0, four},
		3:  {impl.PlaceLost, 30, 4, 9, 0, 0, four},
		4:  {impl.PlaceThere, 55, 6, 10, 0, 0, four},
		5:  {impl.PlaceThere, 55, 6, 10, 0, 0, four},
		6:  {impl.PlaceThere, 55, 6, 10, 0, 0, four},
	} {
		got := checkMoved(t, fmt.Sprintf("FailAt %d", failAt), dirtyMachine(t, 4), withFail(plan, failAt), 55, want)
		if want.place == impl.PlaceLost {
			checkMachine(t, "one that is lost", got.Machine, impl.Machine{})
		}
	}
	for failAt, want := range map[int64]moved{
		1: {impl.PlaceHere, 55, 6, 3, 0, 0, nil}, 2: {impl.PlaceThere, 55, 6, 6, 0, 0, []int64{0}}, 3: {impl.PlaceThere, 55, 6, 6, 0, 0, []int64{0}},
	} {
		checkMoved(t, fmt.Sprintf("nobody lacks, FailAt %d", failAt), dirtyMachine(t, 0), withFail(plan, failAt), 55, want)
	}
	m := moveGuest(t, 4, put(1, 2, 3)+get(1, 2, 3))
	plan = impl.MovePlan{Batch: 4, Pace: 3, Post: true}
	checkMoved(t, "ahead of what is fetched", m, withFail(plan, 1), 12, moved{impl.PlaceLost, 3, 2, 4, 0, 0, []int64{3}})
	checkMoved(t, "behind what is fetched", m, withFail(plan, 2), 12, moved{impl.PlaceThere, 12, 4, 7, 0, 3, []int64{3}})
	m = moveGuest(t, 4, idle(9)+put(1, 2, 3)+get(3))
	plan.Batch = 1
	checkMoved(t, "with one fetched and one sent", m, withFail(plan, 5), 50, moved{impl.PlaceLost, 15, 6, 6, 0, 1, []int64{3}})
	checkMoved(t, "with one fetched and all sent", m, withFail(plan, 6), 50, moved{impl.PlaceThere, 50, 17, 7, 0, 1, []int64{3}})
}

// The tick in which the link fails counts, also where nothing is left to be done.
func TestP37ALinkThatFailsBehindAllSteps(t *testing.T) {
	halting := moveGuest(t, 6, idle(4)+"halt\n")
	for failAt, want := range map[int64]moved{
		0: {impl.PlaceHere, 5, 1, 0, 0, 0, nil}, 1: {impl.PlaceHere, 5, 2, 3, 0, 0, nil}, 2: {impl.PlaceHere, 5, 3, 6, 0, 0, []int64{0}},
		3: {impl.PlaceThere, 5, 3, 6, 1, 0, []int64{0}}, 4: {impl.PlaceThere, 5, 3, 6, 1, 0, []int64{0}},
	} {
		checkMoved(t, fmt.Sprintf("all done, FailAt %d", failAt), dirtyMachine(t, 0), withFail(dirtyPlan(), failAt), 5, want)
		checkMoved(t, fmt.Sprintf("one that halts, FailAt %d", failAt), halting, withFail(dirtyPlan(), failAt), 100, want)
	}
	four := []int64{4}
	for failAt, want := range map[int64]moved{
		2: {impl.PlaceHere, 20, 3, 6, 0, 0, four}, 3: {impl.PlaceHere, 20, 4, 9, 1, 0, four}, 4: {impl.PlaceThere, 20, 4, 10, 2, 0, four},
	} {
		checkMoved(t, fmt.Sprintf("while it is stopped, FailAt %d", failAt), dirtyMachine(t, 4), withFail(dirtyPlan(), failAt), 20, want)
	}
	for failAt, want := range map[int64]moved{
		1: {impl.PlaceHere, 20, 2, 3, 0, 0, nil}, 2: {impl.PlaceLost, 20, 3, 6, 0, 0, four}, 3: {impl.PlaceLost, 20, 4, 9, 0, 0, four}, 4: {impl.PlaceThere, 20, 4, 10, 0, 0, four},
	} {
		checkMoved(t, fmt.Sprintf("with Post, FailAt %d", failAt), dirtyMachine(t, 4), withFail(withPost(dirtyPlan()), failAt), 20, want)
	}
	for failAt, want := range map[int64]moved{1: {impl.PlaceHere, 5, 2, 3, 0, 0, nil}, 2: {impl.PlaceThere, 5, 2, 6, 0, 0, []int64{0}}} {
		checkMoved(t, fmt.Sprintf("with Post, nobody lacks, FailAt %d", failAt), dirtyMachine(t, 0), withFail(withPost(dirtyPlan()), failAt), 5, want)
	}
}

// Dirty tells no more behind a failure, and what was told ahead of it stays.
func TestALinkThatFailsInALaterRound(t *testing.T) {
	plan := impl.MovePlan{Batch: 2, Pace: 4, Rounds: 3}
	for failAt, want := range map[int64]moved{
		1: {impl.PlaceHere, 40, 10, 2, 0, 0, nil},
		2: {impl.PlaceHere, 40, 10, 4, 0, 0, []int64{2}},
		3: {impl.PlaceHere, 40, 10, 6, 0, 0, []int64{2, 2}},
		4: {impl.PlaceHere, 40, 10, 8, 0, 0, []int64{2, 2, 2}},
		5: {impl.PlaceHere, 40, 10, 10, 0, 0, []int64{2, 2, 2, 2}},
		6: {impl.PlaceThere, 40, 11, 12, 1, 0, []int64{2, 2, 2, 2}},
	} {
		checkMoved(t, fmt.Sprintf("FailAt %d", failAt), pairMachine(t), withFail(plan, failAt), 40, want)
	}
}

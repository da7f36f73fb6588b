package tests

import (
	"fmt"
	"maps"
	"math/rand"
	"slices"
	"testing"

	"loop.example/g00038/impl"
)

const (
	copyPart = "copy"
	stopPart = "stop"
	postPart = "post"
	herePart = "here"
	overPart = "there"
	lostPart = "lost"
)

// plainMover is what chapter 20 says of Migrate, said once more: a tick looks at the part in which it is. Apart counts
// the vectors that were put into two frames while frames lacked.
type plainMover struct {
	m     impl.Machine
	plan  impl.MovePlan
	left  int64
	part  string
	todo  []int64
	dirty map[int64]bool
	apart int
	told  impl.MoveRun
}

func (p *plainMover) rising() []int64 {
	return slices.Sorted(maps.Keys(p.dirty))
}

func (p *plainMover) done() bool {
	return p.left == 0 || p.m.State == impl.StateHalt
}

// over tells whether the tick ahead was the last one.
func (p *plainMover) over() bool {
	switch p.part {
	case lostPart:
		return true
	case herePart, overPart:
		return p.done()
	case postPart:
		return p.done() && len(p.dirty) == 0
	}
	return false
}

func (p *plainMover) send(numbers []int64) {
	for _, number := range numbers {
		p.told.Sent++
		delete(p.dirty, number)
	}
}

// sendTodo sends the first Batch of what is to be sent.
func (p *plainMover) sendTodo() {
	for range p.plan.Batch {
		if len(p.todo) > 0 {
			p.send(p.todo[:1])
			p.todo = p.todo[1:]
		}
	}
}

func (p *plainMover) fetch(m impl.Machine, step impl.Stepped) {
	for _, use := range plainUses(m, step) {
		frames := use.tables
		if use.place >= 0 {
			frames = append(slices.Clone(frames), use.place/256)
		}
		for _, number := range frames {
			if p.dirty[number] {
				p.told.Faults++
				p.send([]int64{number})
			}
		}
		if use.acc == impl.AccWrite && use.place%256 > 240 && impl.Decode(step.Word).Instr.Op == impl.OpVStore && len(p.dirty) > 0 {
			p.apart++
		}
	}
}

func (p *plainMover) steps() {
	for range p.plan.Pace {
		if p.done() {
			return
		}
		step := plainStep(p.m)
		if p.part == postPart {
			p.fetch(p.m, step)
		}
		p.m = step.Machine
		p.left--
		p.told.Steps++
	}
}

func (p *plainMover) copyTick() {
	p.sendTodo()
	ahead := p.m.Mem
	p.steps()
	for number := range int64(len(ahead) / 256) {
		if frameIn(ahead, number) != frameIn(p.m.Mem, number) {
			p.dirty[number] = true
		}
	}
	if len(p.todo) > 0 {
		return
	}
	p.told.Dirty = append(p.told.Dirty, int64(len(p.dirty)))
	p.todo = p.rising()
	switch {
	case int64(len(p.dirty)) > p.plan.Small && int64(len(p.told.Dirty)) != p.plan.Rounds+1:
		p.dirty = map[int64]bool{}
	case p.plan.Post:
		p.part = postPart
	default:
		p.part = stopPart
	}
}

func (p *plainMover) failure() {
	switch {
	case p.part == copyPart || p.part == stopPart:
		p.part = herePart
	case p.part == postPart && len(p.dirty) > 0:
		p.part = lostPart
	}
}

func (p *plainMover) tick() {
	if p.told.Ticks == p.plan.FailAt {
		p.failure()
	}
	p.told.Ticks++
	switch p.part {
	case copyPart:
		p.copyTick()
	case stopPart:
		p.told.Down++
		p.sendTodo()
		if len(p.todo) == 0 {
			p.part = overPart
		}
	case postPart:
		p.steps()
		p.todo = p.rising()
		p.sendTodo()
	case herePart, overPart:
		p.steps()
	}
}

// plainCode is told apart from the run, which is for what is right alone.
func plainCode(m impl.Machine, plan impl.MovePlan, steps int64) int64 {
	right := impl.MachineFault(m) == impl.OK && among(steps, 0, 20000) && among(plan.Batch, 1, 256) && among(plan.Pace, 1, 1000) &&
		among(plan.Rounds, 0, 20) && among(plan.Small, 0, 256) && plan.FailAt >= -1
	switch {
	case !right:
		return impl.ErrForm
	case m.Count+steps > endCount:
		return impl.ErrLimit
	}
	return impl.OK
}

func plainMove(m impl.Machine, plan impl.MovePlan, steps int64) (told impl.MoveRun, apart int) {
	if code := plainCode(m, plan, steps); code != impl.OK {
		return impl.MoveRun{Code: code}, 0
	}
	p := &plainMover{m: m, plan: plan, left: steps, part: copyPart, todo: inARow(0, len(m.Mem)/256), dirty: map[int64]bool{}}
	for !p.over() {
		p.tick()
	}
	p.told.Place, p.told.Machine = impl.PlaceThere, p.m
	switch p.part {
	case herePart:
		p.told.Place = impl.PlaceHere
	case lostPart:
		p.told.Place, p.told.Machine = impl.PlaceLost, impl.Machine{}
	}
	return p.told, p.apart
}

// moveCounts are the numbers of a run in the order in which they stand there.
func moveCounts(r impl.MoveRun) []int64 {
	return []int64{r.Code, r.Place, r.Steps, r.Ticks, r.Sent, r.Down, r.Faults}
}

func checkMoveRun(t *testing.T, what string, got impl.MoveRun, want impl.MoveRun) {
	t.Helper()
	checkNumbers(t, what+": Code, Place, Steps, Ticks, Sent, Down, Faults", moveCounts(got), moveCounts(want))
	checkNumbers(t, what+": Dirty", got.Dirty, want.Dirty)
	checkMachine(t, what, got.Machine, want.Machine)
}

func checkMoveCode(t *testing.T, what string, got impl.MoveRun, code int64) {
	t.Helper()
	checkMoveRun(t, what, got, impl.MoveRun{Code: code})
}

// checkMoveSame is P37: the machine comes to what it comes to by itself, or is lost, which asks for Post and a link that
// fails.
func checkMoveSame(t *testing.T, what string, m impl.Machine, plan impl.MovePlan, steps int64) impl.MoveRun {
	t.Helper()
	what = fmt.Sprintf("%s, %+v, %d steps", what, plan, steps)
	before := copyMachine(m)
	got := impl.Migrate(m, plan, steps)
	checkMachine(t, what+": what was handed in", m, before)
	alone := impl.RunMachine(m, steps)
	fails := plan.FailAt >= 0 && plan.FailAt < got.Ticks
	switch {
	case got.Code != impl.OK:
		t.Errorf("%s: Code %d", what, got.Code)
	case got.Place == impl.PlaceLost:
		if !plan.Post || plan.FailAt != got.Ticks-1 || got.Steps > alone.Steps {
			t.Errorf("%s: lost in tick %d behind %d steps", what, got.Ticks-1, got.Steps)
		}
		checkMachine(t, what+": lost", got.Machine, impl.Machine{})
	case got.Place == impl.PlaceHere && !fails || got.Place != impl.PlaceHere && got.Place != impl.PlaceThere:
		t.Errorf("%s: Place %d behind %d ticks", what, got.Place, got.Ticks)
	default:
		checkRun(t, what+": by itself", impl.MachineRun{Machine: got.Machine, Steps: got.Steps}, alone)
	}
	return got
}

// checkMovePlain holds a run against the plain one, too.
func checkMovePlain(t *testing.T, what string, m impl.Machine, plan impl.MovePlan, steps int64) (got impl.MoveRun, apart int) {
	t.Helper()
	got = checkMoveSame(t, what, m, plan, steps)
	want, apart := plainMove(m, plan, steps)
	checkMoveRun(t, fmt.Sprintf("%s, %+v, %d steps: by plain ticks", what, plan, steps), got, want)
	return got, apart
}

// moved is what a test tells of a run by hand.
type moved struct {
	place  int64
	steps  int64
	ticks  int64
	sent   int64
	down   int64
	faults int64
	dirty  []int64
}

func checkMoved(t *testing.T, what string, m impl.Machine, plan impl.MovePlan, steps int64, want moved) impl.MoveRun {
	t.Helper()
	got, _ := checkMovePlain(t, what, m, plan, steps)
	counts := []int64{impl.OK, want.place, want.steps, want.ticks, want.sent, want.down, want.faults}
	checkNumbers(t, what+": Code, Place, Steps, Ticks, Sent, Down, Faults", moveCounts(got), counts)
	checkNumbers(t, what+": Dirty", got.Dirty, want.dirty)
	return got
}

// randomPlan often ends early, and often fails in one of the first ticks.
func randomPlan(rng *rand.Rand, frames int64) impl.MovePlan {
	return impl.MovePlan{
		Batch:  oneOf(rng, 1, 1, 2, 2, 3, 4, max(frames-1, 1), frames, min(frames+1, 256), 256),
		Pace:   oneOf(rng, 1, 2, 3, 5, 8, 12, 20, 1000),
		Rounds: oneOf(rng, 0, 0, 1, 2, 3, 5, 20),
		Small:  oneOf(rng, 0, 0, 0, 1, 2, 3, frames, 256),
		Post:   rng.Intn(2) == 0,
		FailAt: oneOf(rng, -1, -1, -1, 0, 1, 2, 3, rng.Int63n(12), rng.Int63n(12), rng.Int63n(40), 1000),
	}
}

// moveInstr writes often, to whatever frame, now and then with a vector that lies in two.
func moveInstr(rng *rand.Rand) impl.Instr {
	reg := func() int64 { return 1 + rng.Int63n(6) }
	switch rng.Intn(12) {
	case 0, 1, 2:
		return impl.Instr{Op: impl.OpStore, A: reg(), B: reg(), Imm: 4 * rng.Int63n(64)}
	case 3:
		return impl.Instr{Op: impl.OpStoreB, A: reg(), B: reg(), Imm: rng.Int63n(256)}
	case 4:
		return impl.Instr{Op: impl.OpVStore, A: rng.Int63n(4), B: 7 + rng.Int63n(2)}
	case 5:
		return impl.Instr{Op: impl.OpVLoad, A: rng.Int63n(4), B: 7 + rng.Int63n(2)}
	case 6:
		return impl.Instr{Op: impl.OpFetchAdd, A: 9, B: reg(), C: 9}
	case 7:
		return impl.Instr{Op: impl.OpLoad, A: 9, B: reg(), Imm: 4 * rng.Int63n(64)}
	case 8:
		return impl.Instr{Op: impl.OpStore, B: reg(), Imm: 4 * rng.Int63n(64)}
	case 9:
		return impl.Instr{Op: impl.OpOut, A: 9, Imm: 3}
	default:
		return impl.Instr{Op: impl.OpAddI, A: 9, B: 9, Imm: 1}
	}
}

// moveMachine goes round in the code of its first frame, which its stores leave alone, and comes back to it by a trap.
func moveMachine(rng *rand.Rand) impl.Machine {
	frames := 4 + rng.Int63n(12)
	m := impl.NewMachine(filledMemory(int(frames)))
	last := 4 * (5 + rng.Int63n(58))
	for at := int64(0); at < last; at += 4 {
		m.Mem = withWord(m.Mem, at, wordOfInstr(moveInstr(rng)))
	}
	m.Mem = withWord(m.Mem, last, wordOfInstr(impl.Instr{Op: impl.OpJump, A: 10}))
	if rng.Intn(8) == 0 {
		m.Mem = withWord(m.Mem, last, wordOfInstr(impl.Instr{Op: impl.OpHalt}))
	}
	for n := 1; n < 7; n++ {
		m.Regs[n] = 256 * (1 + rng.Int63n(frames-1))
	}
	m.Regs[7], m.Regs[8] = 256*(1+rng.Int63n(frames-2))+244+4*rng.Int63n(4), 256*(1+rng.Int63n(frames-1))
	for n := range m.Vec {
		m.Vec[n] = rng.Int63n(1 << 32)
	}
	m.Ctl[impl.CtlStatus] = impl.StatusVec
	if rng.Intn(2) == 0 {
		m = movePages(rng, m, frames)
	}
	return m
}

// movePages puts a machine behind tables in its last two frames, which it writes to as to any other.
func movePages(rng *rand.Rand, m impl.Machine, frames int64) impl.Machine {
	m.Ctl[impl.CtlStatus] |= impl.StatusPaged
	m.Ctl[impl.CtlTable] = frames - 1
	m.Mem = withEntries(m.Mem, tableEntry{frames - 1, 0, frames - 2, flagV})
	for page := range frames {
		m.Mem = withEntries(m.Mem, tableEntry{frames - 2, page, page, flagV | flagR | flagW | flagX | flagA*rng.Int63n(2) | flagD*rng.Int63n(2)})
	}
	return m
}

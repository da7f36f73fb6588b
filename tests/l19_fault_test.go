package tests

import (
	"fmt"
	"math"
	"testing"

	"loop.example/g00038/impl"
)

// samplePlan is right, and moves the sample machines in a few ticks.
func samplePlan() impl.MovePlan {
	return impl.MovePlan{Batch: 3, Pace: 4, Rounds: 2, Small: 1, FailAt: -1}
}

// checkPlan holds a plan to whether it is right, with and without Post, for a machine that runs and one that halts.
func checkPlan(t *testing.T, what string, plan impl.MovePlan, right bool) {
	t.Helper()
	for kind := range 4 {
		plan.Post = kind%2 == 0
		m := loadMachine(t, 4, "storeb r1, r0, 300\naddi r1, r1, 1\neq r0, r0, -2")
		m.State = int64(kind / 2 * impl.StateHalt)
		for _, steps := range []int64{0, 30} {
			if right {
				checkMovePlain(t, what, m, plan, steps)
			} else {
				checkMoveCode(t, fmt.Sprintf("%s, %d steps", what, steps), impl.Migrate(m, plan, steps), impl.ErrForm)
			}
		}
	}
}

func TestMigrateHoldsThePlanToItsBounds(t *testing.T) {
	fields := map[string]struct {
		field  func(p *impl.MovePlan) *int64
		bounds map[int64]bool
	}{
		"Batch":  {func(p *impl.MovePlan) *int64 { return &p.Batch }, map[int64]bool{-1: false, 0: false, 1: true, 2: true, 255: true, 256: true, 257: false}},
		"Pace":   {func(p *impl.MovePlan) *int64 { return &p.Pace }, map[int64]bool{-1: false, 0: false, 1: true, 2: true, 999: true, 1000: true, 1001: false}},
		"Rounds": {func(p *impl.MovePlan) *int64 { return &p.Rounds }, map[int64]bool{-2: false, -1: false, 0: true, 1: true, 19: true, 20: true, 21: false}},
		"Small":  {func(p *impl.MovePlan) *int64 { return &p.Small }, map[int64]bool{-2: false, -1: false, 0: true, 1: true, 255: true, 256: true, 257: false}},
		"FailAt": {func(p *impl.MovePlan) *int64 { return &p.FailAt }, map[int64]bool{-3: false, -2: false, -1: true, 0: true, 1: true, 1 << 40: true}},
	}
	checkPlan(t, "the sample", samplePlan(), true)
	checkPlan(t, "the zero plan", impl.MovePlan{}, false)
	for name, f := range fields {
		for n, right := range withEnds(f.bounds) {
			plan := samplePlan()
			*f.field(&plan) = n
			checkPlan(t, fmt.Sprintf("%s %d", name, n), plan, right || name == "FailAt" && n == math.MaxInt64)
		}
	}
}

func TestMigrateHoldsStepsToTheirBounds(t *testing.T) {
	for steps, right := range withEnds(map[int64]bool{-1: false, 0: true, 1: true, 19999: true, 20000: true, 20001: false}) {
		for _, post := range []bool{false, true} {
			for _, state := range []int64{impl.StateGo, impl.StateWait, impl.StateHalt} {
				plan := samplePlan()
				plan.Post = post
				m := loadMachine(t, 2, "addi r1, r1, 1\nstoreb r1, r0, 300\neq r0, r0, -2")
				m.State = state
				if right {
					checkMoveSame(t, "steps", m, plan, steps)
				} else {
					checkMoveCode(t, fmt.Sprintf("%d steps", steps), impl.Migrate(m, plan, steps), impl.ErrForm)
				}
			}
		}
	}
}

func TestMigrateRefusesWrongMachines(t *testing.T) {
	checkMoveCode(t, "the zero machine", impl.Migrate(impl.Machine{}, samplePlan(), 3), impl.ErrForm)
	for _, c := range wrongChanges() {
		m := sampleMachine(0)
		c.change(&m)
		for _, steps := range []int64{0, 3} {
			checkMoveCode(t, c.what, impl.Migrate(m, samplePlan(), steps), impl.ErrForm)
		}
	}
}

func TestMigrateTakesMachinesAtTheirBounds(t *testing.T) {
	for _, c := range rightChanges() {
		m := sampleMachine(wordOfText(t, "addi r1, r1, 1"))
		c.change(&m)
		if m.Count == endCount {
			checkMovePlain(t, c.what, m, samplePlan(), 0)
			checkMoveCode(t, c.what, impl.Migrate(m, samplePlan(), 5), impl.ErrLimit)
			continue
		}
		for _, post := range []bool{false, true} {
			plan := samplePlan()
			plan.Post = post
			checkMovePlain(t, c.what, m, plan, 5)
		}
	}
}

// Count must have room for all steps, also for those that a machine which halts does not do, and where the link fails.
func TestMigrateAsksForRoomInCount(t *testing.T) {
	for _, steps := range []int64{0, 1, 2, 7, 100, 20000} {
		for _, state := range []int64{impl.StateGo, impl.StateWait, impl.StateHalt} {
			for _, failAt := range []int64{-1, 0, 1} {
				plan := samplePlan()
				plan.FailAt, plan.Post = failAt, steps%2 == 0
				m := loadMachine(t, 2, "addi r1, r1, 1\nstoreb r1, r0, 300\nhalt")
				m.State = state
				for _, spare := range []int64{2, 1, 0} {
					m.Count = endCount - steps - spare
					checkMoveSame(t, fmt.Sprintf("Count %d", m.Count), m, plan, steps)
				}
				for _, above := range []int64{1, steps / 2, steps} {
					m.Count = endCount - steps + above
					if above > 0 && above <= steps {
						checkMoveCode(t, fmt.Sprintf("Count %d, %d steps", m.Count, steps), impl.Migrate(m, plan, steps), impl.ErrLimit)
					}
				}
			}
		}
	}
}

// A thing that is not right is told ahead of a Count without room.
func TestMigrateTellsTheFirstFault(t *testing.T) {
	m := loadMachine(t, 2, "addi r1, r1, 1")
	m.Count = endCount
	checkMoveCode(t, "no room in Count", impl.Migrate(m, samplePlan(), 1), impl.ErrLimit)
	checkMoveCode(t, "and steps below 0", impl.Migrate(m, samplePlan(), -1), impl.ErrForm)
	checkMoveCode(t, "and too many steps", impl.Migrate(m, samplePlan(), impl.MaxSteps+1), impl.ErrForm)
	for what, change := range map[string]func(p *impl.MovePlan){
		"Batch": func(p *impl.MovePlan) { p.Batch = 0 }, "Pace": func(p *impl.MovePlan) { p.Pace = 1001 }, "Rounds": func(p *impl.MovePlan) { p.Rounds = 21 },
		"Small": func(p *impl.MovePlan) { p.Small = -1 }, "FailAt": func(p *impl.MovePlan) { p.FailAt = -2 },
	} {
		plan := samplePlan()
		change(&plan)
		checkMoveCode(t, "and "+what, impl.Migrate(m, plan, 1), impl.ErrForm)
	}
	m.Mode = 2
	checkMoveCode(t, "and a wrong machine", impl.Migrate(m, samplePlan(), 1), impl.ErrForm)
	m.Mode, m.Count = impl.ModeKernel, endCount+1
	checkMoveCode(t, "a Count above its end", impl.Migrate(m, samplePlan(), 0), impl.ErrForm)
}

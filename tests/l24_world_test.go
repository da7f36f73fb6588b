package tests

import (
	"fmt"
	"math"
	"math/rand"
	"slices"
	"strings"
	"sync"
	"testing"

	"loop.example/g00038/impl"
)

func worldCodes(codes ...int64) []impl.WorldOut {
	var outs []impl.WorldOut
	for _, code := range codes {
		outs = append(outs, impl.WorldOut{Code: code})
	}
	return outs
}

func steps(num int64) impl.WorldOut { return impl.WorldOut{Num: num} }

func TestStartGuestBySavedOrDisk(t *testing.T) {
	w := sampleWorld()
	down := checkStart(t, "down", w, "down")
	checkBooted(t, "down: what was saved, though there is no such disk", down, impl.Booted{Machine: machineFrom("loop", 30)})
	saved := checkStart(t, "saved", w, "saved")
	checkBooted(t, "saved: what was saved, though it is up", saved, impl.Booted{Machine: machineFrom("front", 20)})
	busy := checkStart(t, "busy", w, "busy")
	checkBooted(t, "busy: its disk, though it is up", busy, plainBoot(bootOf(loopText), worldBoard()))
	checkEqual(t, "busy: registers", len(busy.Regs), 2)
	late := checkStart(t, "late", w, "late")
	checkBooted(t, "late: its disk", late, impl.Boot(bootOf(plainHello("hi")), worldBoard()))
	checkBooted(t, "lost: the code of Boot", checkStart(t, "lost", w, "lost"), impl.Booted{Code: impl.ErrSyntax})
	board := impl.BoardOf(impl.ReadTables(late.Machine.Mem, late.Machine.Regs[1]).Tables)
	checkBoardRead(t, "the board", board, impl.BoardRead{Good: true, Board: impl.Board{Frames: 6, Cpus: 1}})
}

func TestStartGuestOfDisks(t *testing.T) {
	for disk, code := range diskCodes() {
		if !plainName(disk) {
			continue
		}
		w := changedWorld(sampleWorld(), func(w *impl.World) { guestIn(w, "late").Disk = disk })
		got := checkStart(t, disk, w, "late")
		checkNumber(t, disk, got.Code, code)
		if code != impl.OK {
			checkBooted(t, disk+": with a code", got, impl.Booted{Code: code})
		}
		guestIn(&w, "late").Saved = plainPackMachine(machineFrom("edge", 1))
		checkBooted(t, disk+": saved", checkStart(t, disk, w, "late"), impl.Booted{Machine: machineFrom("edge", 1)})
	}
	none := changedWorld(sampleWorld(), func(w *impl.World) { w.Images = nil })
	checkBooted(t, "no images", checkStart(t, "no images", none, "late"), impl.Booted{Code: impl.ErrSyntax})
}

func TestStartGuestOfNames(t *testing.T) {
	wrong := changedWorld(sampleWorld(), func(w *impl.World) { w.Cluster.Over = 99 })
	for _, name := range []string{"", "alone", "idle", "zz", "bus", "busyy", "Busy", "busy\x00", strings.Repeat("b", 65536)} {
		checkBooted(t, fmt.Sprintf("%.20q", name), checkStart(t, "none", sampleWorld(), name), impl.Booted{Code: impl.ErrNone})
		checkBooted(t, fmt.Sprintf("%.20q in a wrong world", name), checkStart(t, "wrong", wrong, name), impl.Booted{Code: impl.ErrForm})
	}
	for _, long := range []string{strings.Repeat("b", 65537), strings.Repeat("b", 100000)} {
		checkBooted(t, "too long", checkStart(t, "long", sampleWorld(), long), impl.Booted{Code: impl.ErrSize})
		checkBooted(t, "too long in a wrong world", checkStart(t, "long", wrong, long), impl.Booted{Code: impl.ErrSize})
	}
	checkBooted(t, "no world", checkStart(t, "no world", impl.World{}, "busy"), impl.Booted{Code: impl.ErrForm})
}

func TestStartsOfGuestsAreNewMemory(t *testing.T) {
	w := sampleWorld()
	for _, name := range []string{"busy", "down", "late", "saved", "tied"} {
		got := impl.StartGuest(w, name)
		checkNewMemory(t, name, got, w)
		was := impl.StartGuest(w, name)
		spoilMachine(got.Machine)
		clear(got.Regs)
		checkBooted(t, name+" again", checkStart(t, name, w, name), was)
	}
}

func TestRunWorldRefusesWhatIsTooLongOrWrong(t *testing.T) {
	wrong := changedWorld(sampleWorld(), func(w *impl.World) { w.Guests[0].Epoch = -1 })
	for what, w := range map[string]impl.World{"right": sampleWorld(), "wrong": wrong, "none": {}} {
		for _, count := range []int{0, 1, 999, 1000, 1001, 5000} {
			got := checkWorldRun(t, fmt.Sprintf("%s, %d ops", what, count), w, make([]impl.WorldOp, count))
			if count > 1000 {
				checkNumber(t, what, got.Code, impl.ErrSize)
			}
			if got.Code != impl.OK {
				checkWorld(t, what+": with a code", got.World, impl.World{})
				checkEqual(t, what+": Outs with a code", len(got.Outs), 0)
			}
		}
	}
	none := impl.RunWorld(sampleWorld(), nil)
	checkNumber(t, "no op", none.Code, impl.OK)
	checkWorld(t, "no op", none.World, sampleWorld())
	many := impl.RunWorld(sampleWorld(), slices.Repeat([]impl.WorldOp{woRun(1)}, 1000))
	checkEqual(t, "1000 ops", len(many.Outs), 1000)
	checkNumber(t, "1000 ops", worldGuest(many.World, "busy").Machine.Count, 1007)
}

func TestWorldOpsOfNoKind(t *testing.T) {
	for _, kind := range []int64{0, 6, 7, 8, -1, 1000, math.MaxInt64, math.MinInt64} {
		op := impl.WorldOp{Kind: kind, Name: "busy", Disk: "hello", Num: 3, Value: 4, Op: clFence("n1")}
		checkRefusedWorldOp(t, fmt.Sprintf("kind %d", kind), sampleWorld(), op, impl.ErrForm)
	}
}

// What an op does not speak of counts for nothing.
func TestWorldOpsLookAtTheirOwnFieldsAlone(t *testing.T) {
	for _, op := range []impl.WorldOp{woBoot("late", "loop"), woRun(4), woSave("busy"), woIn("busy", 5, 6), woCluster(clBeat("n1"))} {
		want := impl.RunWorld(sampleWorld(), []impl.WorldOp{op})
		noise := impl.WorldOp{Kind: op.Kind, Name: "zz", Disk: "no-such", Num: -7, Value: -8, Op: clFence("n2")}
		switch op.Kind {
		case impl.WoBoot:
			noise.Name, noise.Disk = op.Name, op.Disk
		case impl.WoRun:
			noise.Num = op.Num
		case impl.WoSave:
			noise.Name = op.Name
		case impl.WoIn:
			noise.Name, noise.Num, noise.Value = op.Name, op.Num, op.Value
		case impl.WoCluster:
			noise.Op = op.Op
		}
		got := checkWorldRun(t, fmt.Sprintf("kind %d", op.Kind), sampleWorld(), []impl.WorldOp{noise})
		checkWorldOuts(t, fmt.Sprintf("kind %d", op.Kind), got.Outs, want.Outs)
		checkWorld(t, fmt.Sprintf("kind %d", op.Kind), got.World, want.World)
	}
}

func TestWoBootBeginsAGuest(t *testing.T) {
	w := sampleWorld()
	for name, epoch := range map[string]int64{"alone": 1, "late": 5, "lost": 4} {
		for _, disk := range []string{"hello", "loop", "front", "edge"} {
			what := name + " from " + disk
			behind := checkWorldOps(t, what, w, []impl.WorldOp{woBoot(name, disk)}, impl.WorldOut{})
			want := impl.WorldGuest{Name: name, Disk: disk, Up: true, Epoch: epoch, Machine: machineFrom(disk, 0)}
			checkGuests(t, what, []impl.WorldGuest{worldGuest(behind, name)}, []impl.WorldGuest{want})
			others := slices.DeleteFunc(copyWorld(behind).Guests, func(g impl.WorldGuest) bool { return g.Name == name })
			checkGuests(t, what+": the others", others, slices.DeleteFunc(copyWorld(w).Guests, func(g impl.WorldGuest) bool { return g.Name == name }))
		}
	}
}

// What was saved of a guest that is down is gone with the next boot, also if it is down again behind that.
func TestWoBootForgetsWhatWasSaved(t *testing.T) {
	w := changedWorld(sampleWorld(), func(w *impl.World) { guestIn(w, "lost").Saved = plainPackMachine(machineFrom("loop", 9)) })
	w = checkWorldOps(t, "boot", w, []impl.WorldOp{woBoot("lost", "hello")}, impl.WorldOut{})
	checkText(t, "Saved", worldGuest(w, "lost").Saved, "")
	w = impl.RunWorld(w, []impl.WorldOp{woCluster(clFence("n2")), woCluster(clTick(100))}).World
	checkMachine(t, "begun anew from its disk", worldGuest(w, "lost").Machine, machineFrom("hello", 0))
	kept := changedWorld(sampleWorld(), func(w *impl.World) { guestIn(w, "lost").Saved = plainPackMachine(machineFrom("loop", 9)) })
	checkRefusedWorldOp(t, "with a code it stays", kept, woBoot("lost", "spoilt"), impl.ErrSum)
}

func TestWoBootRefuses(t *testing.T) {
	for disk, code := range diskCodes() {
		for _, name := range []string{"zz", "", "Busy", strings.Repeat("z", 65537)} {
			checkRefusedWorldOp(t, "no such machine", sampleWorld(), woBoot(name, disk), impl.ErrNone)
		}
		for _, name := range []string{"idle", "down", "busy", "saved", "tied"} {
			checkRefusedWorldOp(t, "on no node, or up: "+name, sampleWorld(), woBoot(name, disk), impl.ErrState)
		}
		if code == impl.OK {
			continue
		}
		for _, name := range []string{"alone", "late", "lost"} {
			checkRefusedWorldOp(t, fmt.Sprintf("%s from %.30q", name, disk), sampleWorld(), woBoot(name, disk), code)
		}
	}
	bare := changedWorld(sampleWorld(), func(w *impl.World) { w.Images = nil })
	checkRefusedWorldOp(t, "no images", bare, woBoot("alone", "hello"), impl.ErrSyntax)
	checkRefusedWorldOp(t, "no images, no such machine", bare, woBoot("zz", "hello"), impl.ErrNone)
}

// Guests stay in their order by Name, wherever a new one comes.
func TestWoBootKeepsTheOrder(t *testing.T) {
	w := sampleWorld()
	w.Guests = nil
	for _, order := range [][]string{{"alone", "busy", "late", "tied"}, {"tied", "late", "busy", "alone"}, {"late", "tied", "alone", "busy"}} {
		var ops []impl.WorldOp
		for _, name := range order {
			ops = append(ops, woBoot(name, "loop"), woRun(1))
		}
		behind := checkWorldOps(t, fmt.Sprint(order), w, ops, impl.WorldOut{}, steps(1), impl.WorldOut{}, steps(2), impl.WorldOut{}, steps(3), impl.WorldOut{}, steps(4))
		var names []string
		for _, g := range behind.Guests {
			names = append(names, g.Name)
			checkNumber(t, g.Name+": steps since it was begun", g.Machine.Count, int64(4-slices.Index(order, g.Name)))
		}
		checkNames(t, fmt.Sprint(order), names, []string{"alone", "busy", "late", "tied"})
	}
}

func TestWoRunOfNum(t *testing.T) {
	for num, done := range map[int64]int64{0: 0, 1: 3, 2: 6, 3: 9, 4: 11, 10: 23, 999: 2001, 1000: 2003} {
		// The hello's machine was two steps from its end, at which it stops.
		behind := checkWorldOps(t, fmt.Sprintf("%d steps", num), sampleWorld(), []impl.WorldOp{woRun(num)}, steps(done))
		checkNumber(t, fmt.Sprintf("busy behind %d", num), worldGuest(behind, "busy").Machine.Count, 7+num)
		checkNumber(t, fmt.Sprintf("saved behind %d", num), worldGuest(behind, "saved").Machine.Count, 50+num)
		checkNumber(t, fmt.Sprintf("tied behind %d", num), worldGuest(behind, "tied").Machine.Count, min(2+num, 5))
	}
	for _, num := range []int64{-1, -2, 1001, 1002, 20000, 20001, math.MaxInt64, math.MinInt64} {
		checkRefusedWorldOp(t, fmt.Sprintf("%d steps", num), sampleWorld(), woRun(num), impl.ErrForm)
	}
}

func TestWoRunOfWhoIsUp(t *testing.T) {
	none := changedWorld(sampleWorld(), func(w *impl.World) {
		w.Guests = []impl.WorldGuest{worldGuest(*w, "down"), worldGuest(*w, "late"), worldGuest(*w, "lost")}
	})
	for _, num := range []int64{0, 1, 1000} {
		checkWorld(t, "nobody is up", checkWorldOps(t, "nobody is up", none, []impl.WorldOp{woRun(num)}, steps(0)), none)
	}
	checkRefusedWorldOp(t, "nobody is up", none, woRun(1001), impl.ErrForm)
	bare := changedWorld(sampleWorld(), func(w *impl.World) { w.Guests = nil })
	checkWorldOps(t, "no guests", bare, []impl.WorldOp{woRun(5)}, steps(0))
	one := changedWorld(sampleWorld(), func(w *impl.World) { w.Guests = w.Guests[:1] })
	behind := checkWorldOps(t, "one", one, []impl.WorldOp{woRun(5), woRun(0), woRun(6)}, steps(5), steps(0), steps(6))
	checkMachine(t, "one", worldGuest(behind, "busy").Machine, machineFrom("loop", 18))
	// One that has stopped stays as it is, and is up.
	stopped := checkWorldOps(t, "stopped", sampleWorld(), []impl.WorldOp{woRun(3), woRun(3), woRun(1)}, steps(9), steps(6), steps(2))
	checkMachine(t, "stopped", worldGuest(stopped, "tied").Machine, machineFrom("hello", 5))
	checkEqual(t, "stopped, but up", worldGuest(stopped, "tied").Up, true)
}

// Where RunMachine has a code, the guest stays as it is; the others do their steps.
func TestWoRunAtTheEndOfCount(t *testing.T) {
	for left := range int64(4) {
		w := changedWorld(sampleWorld(), func(w *impl.World) { guestIn(w, "busy").Machine.Count = endCount - left })
		for num := range int64(6) {
			done, count := num, endCount-left+num
			if num > left {
				done, count = 0, endCount-left
			}
			what := fmt.Sprintf("%d left, %d steps", left, num)
			behind := checkWorldOps(t, what, w, []impl.WorldOp{woRun(num)}, steps(done+num+min(num, 3)))
			busy := worldGuest(behind, "busy")
			checkNumber(t, what, busy.Machine.Count, count)
			if done == 0 {
				checkMachine(t, what, busy.Machine, worldGuest(w, "busy").Machine)
			}
			checkEqual(t, what+": up", busy.Up, true)
		}
	}
}

func TestWoSave(t *testing.T) {
	w := checkWorldOps(t, "save", sampleWorld(), []impl.WorldOp{woSave("busy")}, impl.WorldOut{})
	checkMemory(t, "busy", worldGuest(w, "busy").Saved, plainPackMachine(machineFrom("loop", 7)))
	checkMachine(t, "it goes on", worldGuest(w, "busy").Machine, machineFrom("loop", 7))
	w = checkWorldOps(t, "run and save", w, []impl.WorldOp{woRun(4), woSave("saved"), woRun(5), woSave("busy"), woSave("busy"), woRun(2)}, steps(11), impl.WorldOut{}, steps(10), impl.WorldOut{}, impl.WorldOut{}, steps(4))
	checkMemory(t, "saved again", worldGuest(w, "saved").Saved, plainPackMachine(machineFrom("front", 54)))
	checkMemory(t, "busy twice", worldGuest(w, "busy").Saved, plainPackMachine(machineFrom("loop", 16)))
	for name, code := range map[string]int64{"zz": impl.ErrNone, "": impl.ErrNone, "alone": impl.ErrNone, "idle": impl.ErrNone, "busyy": impl.ErrNone, "down": impl.ErrState, "late": impl.ErrState, "lost": impl.ErrState} {
		checkRefusedWorldOp(t, "save "+name, sampleWorld(), woSave(name), code)
	}
}

// A guest whose machine holds the most that it may is saved, too.
func TestWoSaveOfTheGreatestMachine(t *testing.T) {
	full := slices.Repeat([]impl.PortValue{{Port: 2047, Value: 1<<32 - 1}}, 100)
	w := changedWorld(sampleWorld(), func(w *impl.World) {
		m := &guestIn(w, "busy").Machine
		m.Ins, m.Outs, m.Mem, m.Count = full, full, filledMemory(6), endCount
	})
	behind := checkWorldOps(t, "the greatest", w, []impl.WorldOp{woSave("busy"), woCluster(clFence("n1")), woCluster(clTick(100))}, impl.WorldOut{}, impl.WorldOut{Node: "n1", Vms: []string{"alone", "busy"}}, impl.WorldOut{Vms: []string{"alone", "busy", "down"}})
	checkMachine(t, "begun anew", worldGuest(behind, "busy").Machine, worldGuest(w, "busy").Machine)
}

func TestWoIn(t *testing.T) {
	w := checkWorldOps(t, "in", sampleWorld(), []impl.WorldOp{woIn("busy", 5, 7), woIn("saved", 0, 0), woIn("busy", 2047, 1<<32-1), woIn("busy", 5, 8)}, worldCodes(0, 0, 0, 0)...)
	checkPorts(t, "busy", worldGuest(w, "busy").Machine.Ins, []impl.PortValue{{Port: 5, Value: 7}, {Port: 2047, Value: 1<<32 - 1}, {Port: 5, Value: 8}})
	checkPorts(t, "saved", worldGuest(w, "saved").Machine.Ins, []impl.PortValue{{}})
	before := wordAt(worldGuest(w, "busy").Machine.Mem, 512)
	w = checkWorldOps(t, "read", w, []impl.WorldOp{woRun(40)}, steps(83))
	checkPorts(t, "what was read is gone", worldGuest(w, "busy").Machine.Ins, []impl.PortValue{{Port: 2047, Value: 1<<32 - 1}})
	checkNumber(t, "what was read counts", wordAt(worldGuest(w, "busy").Machine.Mem, 512), (before+15)&(1<<32-1))
}

func TestWoInRefuses(t *testing.T) {
	names := map[string]int64{"zz": impl.ErrNone, "alone": impl.ErrNone, "": impl.ErrNone, "down": impl.ErrState, "late": impl.ErrState, "busy": impl.OK, "tied": impl.OK}
	nums := withEnds(map[int64]bool{-1: false, 0: true, 1: true, 2046: true, 2047: true, 2048: false})
	values := withEnds(map[int64]bool{-1: false, 0: true, 1: true, 1<<32 - 1: true, 1 << 32: false})
	for _, count := range []int{0, 1, 99, 100} {
		base := changedWorld(sampleWorld(), func(w *impl.World) {
			for _, name := range []string{"busy", "tied"} {
				guestIn(w, name).Machine.Ins = make([]impl.PortValue, count)
			}
		})
		for name, code := range names {
			for num, numRight := range nums {
				for value, valueRight := range values {
					want := code
					if want == impl.OK && (!numRight || !valueRight) {
						want = impl.ErrForm
					}
					if want == impl.OK && count == 100 {
						want = impl.ErrCount
					}
					got := impl.RunWorld(base, []impl.WorldOp{woIn(name, num, value)})
					checkWorldOuts(t, fmt.Sprintf("%q port %d value %d, %d ahead", name, num, value, count), got.Outs, worldCodes(want))
					if want != impl.OK {
						checkGuests(t, "what was refused", got.World.Guests, base.Guests)
					}
				}
			}
		}
	}
	w := changedWorld(sampleWorld(), func(w *impl.World) { guestIn(w, "busy").Machine.Ins = make([]impl.PortValue, 99) })
	w = checkWorldOps(t, "up to MaxPorts", w, []impl.WorldOp{woIn("busy", 1, 2), woIn("busy", 3, 4)}, worldCodes(impl.OK, impl.ErrCount)...)
	checkEqual(t, "up to MaxPorts", len(worldGuest(w, "busy").Machine.Ins), 100)
}

// What comes to a guest that has stopped, or waits, is there all the same.
func TestWoInOfWhoDoesNoSteps(t *testing.T) {
	for _, state := range []int64{impl.StateHalt, impl.StateWait} {
		w := changedWorld(sampleWorld(), func(w *impl.World) { guestIn(w, "busy").Machine.State = state })
		behind := checkWorldOps(t, "in", w, []impl.WorldOp{woIn("busy", 9, 9), woSave("busy")}, worldCodes(0, 0)...)
		checkPorts(t, "in", worldGuest(behind, "busy").Machine.Ins, []impl.PortValue{{Port: 9, Value: 9}})
	}
}

func TestRunWorldInTwoParts(t *testing.T) {
	rng := rand.New(rand.NewSource(2402))
	machines := guestMachines(rng, 30)
	for n := range 60 {
		w := anyWorld(rng, machines)
		var ops []impl.WorldOp
		for range rng.Intn(30) {
			ops = append(ops, randomWorldOp(rng, w))
		}
		cut := rng.Intn(len(ops) + 1)
		whole := impl.RunWorld(w, ops)
		ahead := impl.RunWorld(w, ops[:cut])
		behind := impl.RunWorld(ahead.World, ops[cut:])
		checkWorldOuts(t, fmt.Sprintf("run %d", n), append(ahead.Outs, behind.Outs...), whole.Outs)
		checkWorld(t, fmt.Sprintf("run %d", n), behind.World, whole.World)
	}
}

func TestRunWorldKeepsNothingForTheNextCall(t *testing.T) {
	ops := []impl.WorldOp{woSave("busy"), woCluster(clFence("n1")), woRun(9), woCluster(clTick(111)), woRun(9)}
	first := impl.RunWorld(sampleWorld(), ops)
	impl.RunWorld(first.World, []impl.WorldOp{woCluster(clStop("busy")), woBoot("alone", "hello"), woRun(50)})
	again := impl.RunWorld(sampleWorld(), ops)
	checkWorldOuts(t, "once more", again.Outs, first.Outs)
	checkWorld(t, "once more", again.World, first.World)
}

// What is told hangs on nothing but what was handed in, also where several ask at once.
func TestRunWorldAnswersAlikeAtOnce(t *testing.T) {
	rng := rand.New(rand.NewSource(2403))
	machines := guestMachines(rng, 20)
	for n := range 10 {
		w := anyWorld(rng, machines)
		var ops []impl.WorldOp
		for range 25 {
			ops = append(ops, randomWorldOp(rng, w))
		}
		want := plainWorldRun(w, ops)
		runs := make([]impl.WorldRun, 8)
		var all sync.WaitGroup
		for at := range runs {
			all.Go(func() { runs[at] = impl.RunWorld(w, ops) })
		}
		all.Wait()
		for _, run := range runs {
			checkWorldOuts(t, fmt.Sprintf("run %d", n), run.Outs, want.Outs)
			checkWorld(t, fmt.Sprintf("run %d", n), run.World, want.World)
		}
	}
}

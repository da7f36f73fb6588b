package tests

import (
	"fmt"
	"math"
	"math/rand"
	"slices"
	"testing"

	"loop.example/g00038/impl"
)

func TestKindsOfRouterOps(t *testing.T) {
	kinds := []int64{impl.RtRaise, impl.RtLower, impl.RtMessage, impl.RtTake, impl.RtDone, impl.RtMask, impl.RtLimit, impl.RtRoute}
	checkNumbers(t, "kinds", kinds, []int64{1, 2, 3, 4, 5, 6, 7, 8})
	checkNumbers(t, "bounds", []int64{impl.MaxLanes, impl.MaxCpus, impl.MaxVectors}, []int64{64, 8, 64})
}

func TestLanesGoHighAndLow(t *testing.T) {
	r := checkOps(t, "high", sampleRouter(), []impl.RouterOp{raiseOp(0), raiseOp(1), raiseOp(2), raiseOp(3)}, told(5, 20, 63, 0))
	checkCpu(t, "high: cpu 0", r, 0, []int64{5, 20}, nil)
	checkCpu(t, "high: cpu 1", r, 1, []int64{0, 7, 8, 40, 63}, []int64{9, 30})
	checkCpu(t, "high: cpu 2", r, 2, []int64{63}, nil)
	r = checkOps(t, "low", r, []impl.RouterOp{lowerOp(0), lowerOp(1), lowerOp(2), lowerOp(3)}, told(0, 0, 0, 0))
	checkAlike(t, "lanes that are low again", r.Lanes, sampleRouter().Lanes)
	checkCpu(t, "what is pending stays", r, 0, []int64{5, 20}, nil)
}

func TestLanesThatAreSoAlready(t *testing.T) {
	for what, masked := range map[string]bool{"masked": true, "not masked": false} {
		for _, level := range []bool{false, true} {
			r := withLane(impl.Lane{Vector: 9, Level: level, Masked: masked})
			low := checkOps(t, what+", low", r, []impl.RouterOp{lowerOp(2), lowerOp(2)}, []impl.RouterOut{refused(impl.ErrState), refused(impl.ErrState)})
			checkAlike(t, what+", low: nothing is done", low, r)
			r.Lanes[2].High = true
			high := checkOps(t, what+", high", r, []impl.RouterOp{raiseOp(2), raiseOp(2)}, []impl.RouterOut{refused(impl.ErrState), refused(impl.ErrState)})
			checkAlike(t, what+", high: nothing is done", high, r)
		}
	}
}

func TestMaskedLanesGoHigh(t *testing.T) {
	for _, level := range []bool{false, true} {
		r := withLane(impl.Lane{Vector: 9, Level: level, Masked: true})
		r = checkOps(t, "masked", r, []impl.RouterOp{raiseOp(2), takeOp(0)}, []impl.RouterOut{{}, refused(impl.ErrNone)})
		checkCpu(t, "masked", r, 0, nil, nil)
		if !r.Lanes[2].High {
			t.Errorf("a masked lane does not go high")
		}
		r = checkOps(t, "masked, low", r, []impl.RouterOp{lowerOp(2)}, told(0))
		checkCpu(t, "masked, low", r, 0, nil, nil)
	}
}

// A vector becomes pending once, from whatever it comes, and each of these tells it.
func TestAVectorThatBecomesPendingTwice(t *testing.T) {
	r := sampleRouter()
	r.Lanes[1].Vector, r.Remaps[1].Vector = 5, 5
	r = checkOps(t, "twice", r, []impl.RouterOp{raiseOp(0), lowerOp(0), raiseOp(0), raiseOp(1), messageOp(3, 7)}, told(5, 0, 5, 5, 5))
	checkCpu(t, "twice", r, 0, []int64{5}, nil)
	r = checkOps(t, "taken once", r, []impl.RouterOp{takeOp(0), takeOp(0)}, []impl.RouterOut{{Vector: 5}, refused(impl.ErrNone)})
	r = checkOps(t, "in Service", r, []impl.RouterOp{messageOp(3, 7), takeOp(0)}, []impl.RouterOut{{Vector: 5}, refused(impl.ErrNone)})
	checkCpu(t, "pending and in Service", r, 0, []int64{5}, []int64{5})
}

func TestMessages(t *testing.T) {
	r := checkOps(t, "all remaps", sampleRouter(), []impl.RouterOp{messageOp(0, 0), messageOp(3, 7), messageOp(3, 8), messageOp(255, 255)}, told(41, 9, 0, 63))
	checkCpu(t, "cpu 0", r, 0, []int64{9}, nil)
	checkCpu(t, "cpu 1", r, 1, []int64{7, 8, 40, 41, 63}, []int64{9, 30})
	checkCpu(t, "cpu 2", r, 2, []int64{0, 63}, nil)
	for _, op := range []impl.RouterOp{
		messageOp(0, 1), messageOp(1, 0), messageOp(3, 0), messageOp(3, 6), messageOp(3, 9), messageOp(2, 7), messageOp(4, 7), messageOp(254, 255), messageOp(255, 254),
		messageOp(255, 0), messageOp(-1, 0), messageOp(-1, 255), messageOp(256, 0), messageOp(256, 255), messageOp(math.MinInt64, 7), messageOp(math.MaxInt64, 7),
	} {
		r = checkOps(t, fmt.Sprintf("%+v", op), sampleRouter(), []impl.RouterOp{op}, []impl.RouterOut{refused(impl.ErrRight)})
		checkAlike(t, "without a remap", r, sampleRouter())
	}
	for _, index := range []int64{-1, 256, math.MinInt64, math.MaxInt64} {
		for _, device := range []int64{-1, 0, 3, 255, 256} {
			checkOps(t, fmt.Sprintf("index %d of %d", index, device), sampleRouter(), []impl.RouterOp{messageOp(device, index)}, []impl.RouterOut{refused(impl.ErrForm)})
		}
	}
	checkOps(t, "no remaps", withRemaps(), []impl.RouterOp{messageOp(0, 0), messageOp(255, 255)}, []impl.RouterOut{refused(impl.ErrRight), refused(impl.ErrRight)})
}

// Lane, Cpu and Flag are not those of a message, and so on: what a kind does not look at may be anything.
func TestPartsThatAnOpDoesNotLookAt(t *testing.T) {
	ops := []impl.RouterOp{raiseOp(0), lowerOp(0), messageOp(3, 7), takeOp(0), doneOp(0), maskOp(3, true), limitOp(2, 4), routeOp(1, 2, 3)}
	want := told(5, 0, 9, 9, 9, 0, 0, 0)
	checkOps(t, "zeros", sampleRouter(), ops, want)
	for _, n := range []int64{-1, 1000, math.MinInt64, math.MaxInt64} {
		ops := slices.Clone(ops)
		for at := range ops {
			op := &ops[at]
			if op.Kind != impl.RtMask {
				op.Flag = true
			}
			if op.Kind != impl.RtMessage {
				op.Device = n
			}
			lane, cpu, vector := true, true, true
			switch op.Kind {
			case impl.RtRaise, impl.RtLower, impl.RtMask:
				lane = false
			case impl.RtMessage:
				vector = false
			case impl.RtTake, impl.RtDone:
				cpu = false
			case impl.RtLimit:
				cpu, vector = false, false
			case impl.RtRoute:
				lane, cpu, vector = false, false, false
			}
			for part, unseen := range map[*int64]bool{&op.Lane: lane, &op.Cpu: cpu, &op.Vector: vector} {
				if unseen {
					*part = n
				}
			}
		}
		checkOps(t, fmt.Sprintf("%d elsewhere", n), sampleRouter(), ops, want)
	}
}

func TestOpsWhosePartsAreNone(t *testing.T) {
	r := sampleRouter()
	var wrong []impl.RouterOp
	for _, n := range []int64{-1, 4, 64, math.MinInt64, math.MaxInt64} {
		wrong = append(wrong, raiseOp(n), lowerOp(n), maskOp(n, true), maskOp(n, false), routeOp(n, 0, 0))
	}
	for _, n := range []int64{-1, 3, 8, math.MinInt64, math.MaxInt64} {
		wrong = append(wrong, takeOp(n), doneOp(n), limitOp(n, 0), routeOp(0, n, 0))
	}
	for _, n := range []int64{-1, 64, 256, math.MinInt64, math.MaxInt64} {
		wrong = append(wrong, routeOp(0, 0, n), limitOp(0, n))
	}
	wrong = append(wrong, limitOp(0, 17), limitOp(0, 63), messageOp(3, -1), messageOp(3, 256))
	for _, kind := range []int64{0, -1, 9, 10, 256, math.MinInt64, math.MaxInt64} {
		wrong = append(wrong, impl.RouterOp{Kind: kind})
	}
	for _, op := range wrong {
		got := checkOps(t, fmt.Sprintf("%+v", op), r, []impl.RouterOp{op}, []impl.RouterOut{refused(impl.ErrForm)})
		checkAlike(t, fmt.Sprintf("%+v: nothing is done", op), got, r)
	}
	r.Lanes = nil
	for _, op := range []impl.RouterOp{raiseOp(0), lowerOp(0), maskOp(0, false), routeOp(0, 0, 0)} {
		checkOps(t, fmt.Sprintf("no lanes: %+v", op), r, []impl.RouterOp{op}, []impl.RouterOut{refused(impl.ErrForm)})
	}
}

// The last lanes, cpus and vectors that there can be are there.
func TestOpsAtTheirBounds(t *testing.T) {
	r := impl.Router{Lanes: manyLanes(64, impl.Lane{Cpu: 7, Vector: 63, Level: true}), Cpus: make([]impl.RouterCpu, 8), Remaps: manyRemaps(1000)}
	ops := []impl.RouterOp{raiseOp(63), takeOp(7), doneOp(7), maskOp(63, true), limitOp(7, 16), takeOp(7), routeOp(63, 0, 0), maskOp(63, false), lowerOp(63), messageOp(3, 231), messageOp(3, 232), raiseOp(64), takeOp(8)}
	outs := append(told(63, 63, 63, 0, 0), refused(impl.ErrNone), impl.RouterOut{}, impl.RouterOut{}, impl.RouterOut{}, impl.RouterOut{}, refused(impl.ErrRight), refused(impl.ErrForm), refused(impl.ErrForm))
	r = checkOps(t, "the last ones", r, ops, outs)
	checkCpu(t, "cpu 7", r, 7, []int64{63}, nil)
	checkCpu(t, "cpu 0", r, 0, []int64{0}, nil)
}

func TestTakeAgainstTheLimit(t *testing.T) {
	for limit := range int64(17) {
		for vector := range int64(64) {
			r := withCpu(impl.RouterCpu{Limit: limit, Pending: []int64{vector}})
			outs := []impl.RouterOut{refused(impl.ErrNone)}
			if vector >= 4*limit {
				outs = told(vector)
			}
			checkOps(t, fmt.Sprintf("vector %d at Limit %d", vector, limit), r, []impl.RouterOp{takeOp(1)}, outs)
		}
	}
	r := withCpu(impl.RouterCpu{Limit: 5, Pending: []int64{18, 19, 20, 22, 25}})
	none := refused(impl.ErrNone)
	r = checkOps(t, "the highest of several", r, []impl.RouterOp{takeOp(1), takeOp(1), doneOp(1), takeOp(1), doneOp(1), takeOp(1), doneOp(1), takeOp(1)}, []impl.RouterOut{{Vector: 25}, none, {Vector: 25}, {Vector: 22}, {Vector: 22}, {Vector: 20}, {Vector: 20}, none})
	checkCpu(t, "those below the Limit", r, 1, []int64{18, 19}, nil)
	r = checkOps(t, "a lower Limit", r, []impl.RouterOp{limitOp(1, 4), takeOp(1)}, told(0, 19))
	checkCpu(t, "a lower Limit", r, 1, []int64{18}, []int64{19})
}

func TestTakeAgainstService(t *testing.T) {
	for begun := range int64(64) {
		for vector := range int64(64) {
			r := withCpu(impl.RouterCpu{Pending: []int64{vector}, Service: []int64{begun}})
			outs := []impl.RouterOut{refused(impl.ErrNone)}
			if vector/4 > begun/4 {
				outs = told(vector)
			}
			checkOps(t, fmt.Sprintf("vector %d over %d", vector, begun), r, []impl.RouterOp{takeOp(1)}, outs)
		}
	}
	r := withCpu(impl.RouterCpu{})
	for _, vector := range inSteps(0, 4, 16) {
		r.Cpus[1].Pending = []int64{vector}
		r = checkOps(t, "up to all priorities", r, []impl.RouterOp{takeOp(1)}, told(vector))
	}
	checkCpu(t, "all priorities", r, 1, nil, inSteps(0, 4, 16))
	r.Cpus[1].Pending = inSteps(0, 1, 64)
	r = checkOps(t, "none is above", r, []impl.RouterOp{takeOp(1)}, []impl.RouterOut{refused(impl.ErrNone)})
	r = checkOps(t, "the last one is over", r, []impl.RouterOp{doneOp(1), doneOp(1), doneOp(1), takeOp(1)}, told(60, 56, 52, 63))
	checkCpu(t, "the last one is over", r, 1, inSteps(0, 1, 63), append(inSteps(0, 4, 13), 63))
}

// Each cpu takes what is pending for it alone.
func TestTakeOfEachCpu(t *testing.T) {
	r := sampleRouter()
	none := refused(impl.ErrNone)
	r = checkOps(t, "three cpus", r, []impl.RouterOp{takeOp(0), takeOp(1), takeOp(2), limitOp(2, 15), takeOp(2), takeOp(1)}, []impl.RouterOut{none, {Vector: 40}, none, {}, {Vector: 63}, none})
	checkCpu(t, "cpu 0", r, 0, nil, nil)
	checkCpu(t, "cpu 1", r, 1, []int64{7, 8}, []int64{9, 30, 40})
	checkCpu(t, "cpu 2", r, 2, nil, []int64{63})
	r = checkOps(t, "cpu 1 to its end", r, []impl.RouterOp{doneOp(1), doneOp(1), takeOp(1), doneOp(1), takeOp(1), takeOp(1), doneOp(1), takeOp(1)}, []impl.RouterOut{{Vector: 40}, {Vector: 30}, none, {Vector: 9}, {Vector: 8}, none, {Vector: 8}, none})
	checkCpu(t, "below the Limit", r, 1, []int64{7}, nil)
}

func TestDoneWithoutService(t *testing.T) {
	r := sampleRouter()
	r.Lanes[1].High = true
	got := checkOps(t, "nothing in Service", r, []impl.RouterOp{doneOp(0), doneOp(2)}, []impl.RouterOut{refused(impl.ErrState), refused(impl.ErrState)})
	checkAlike(t, "no lane signals again", got, r)
}

// Behind RtDone of cpu 0 one lane signals again if it has Level, is high, not masked and led to that cpu.
func TestLanesThatSignalAgain(t *testing.T) {
	for bits := range 16 {
		lane := impl.Lane{Vector: 33, Level: bits&1 > 0, High: bits&2 > 0, Masked: bits&4 > 0, Cpu: int64(bits / 8)}
		r := withLane(lane)
		r.Cpus[0].Service = []int64{3, 21}
		r = checkOps(t, fmt.Sprintf("%+v", lane), r, []impl.RouterOp{doneOp(0)}, told(21))
		var pending []int64
		if bits == 3 {
			pending = []int64{33}
		}
		checkCpu(t, fmt.Sprintf("%+v", lane), r, 0, pending, []int64{3})
		checkCpu(t, fmt.Sprintf("%+v: cpu 1", lane), r, 1, []int64{7, 8, 40}, []int64{9, 30})
	}
	r := sampleRouter()
	r.Lanes = []impl.Lane{
		{Vector: 50, Level: true, High: true}, {Vector: 6, Level: true, High: true}, {Vector: 7, Level: true}, {Vector: 8, High: true},
		{Vector: 9, Level: true, High: true, Masked: true}, {Cpu: 1, Vector: 10, Level: true, High: true}, {Vector: 50, Level: true, High: true},
		{Vector: 21, Level: true, High: true}, {Vector: 0, Level: true, High: true},
	}
	r.Cpus[0] = impl.RouterCpu{Pending: []int64{1, 6}, Service: []int64{21}}
	r = checkOps(t, "several lanes", r, []impl.RouterOp{doneOp(0)}, told(21))
	checkCpu(t, "several lanes", r, 0, []int64{0, 1, 6, 21, 50}, nil)
}

// A lane with Level is pending again as long as it is high; one without is so once.
func TestALevelThatLasts(t *testing.T) {
	r := checkOps(t, "it lasts", sampleRouter(), []impl.RouterOp{raiseOp(1), takeOp(0), doneOp(0), takeOp(0), lowerOp(1), doneOp(0), takeOp(0)}, append(told(20, 20, 20, 20, 0, 20), refused(impl.ErrNone)))
	checkCpu(t, "it lasts", r, 0, nil, nil)
	checkOps(t, "an edge", sampleRouter(), []impl.RouterOp{raiseOp(0), takeOp(0), doneOp(0), takeOp(0)}, append(told(5, 5, 5), refused(impl.ErrNone)))
	checkOps(t, "low ahead of the take", sampleRouter(), []impl.RouterOp{raiseOp(1), lowerOp(1), takeOp(0), doneOp(0), takeOp(0)}, append(told(20, 0, 20, 20), refused(impl.ErrNone)))
}

// Whatever it was and becomes, only one that was masked, is no more, has Level and is high becomes pending.
func TestMask(t *testing.T) {
	for bits := range 16 {
		lane := impl.Lane{Vector: 33, Level: bits&1 > 0, High: bits&2 > 0, Masked: bits&4 > 0}
		masked := bits&8 > 0
		what := fmt.Sprintf("%+v, Masked becomes %t", lane, masked)
		r := checkOps(t, what, withLane(lane), []impl.RouterOp{maskOp(2, masked)}, told(0))
		var pending []int64
		if bits == 7 {
			pending = []int64{33}
		}
		checkCpu(t, what, r, 0, pending, nil)
		lane.Masked = masked
		checkAlike(t, what, r.Lanes[2], lane)
	}
	r := checkOps(t, "masked and again not", sampleRouter(), []impl.RouterOp{maskOp(1, true), raiseOp(1), maskOp(1, false), takeOp(0), maskOp(1, true), doneOp(0), takeOp(0), maskOp(1, false), takeOp(0)}, append(told(0, 0, 0, 20, 0, 20), refused(impl.ErrNone), impl.RouterOut{}, impl.RouterOut{Vector: 20}))
	checkCpu(t, "masked and again not", r, 0, nil, []int64{20})
	r = checkOps(t, "what is pending stays", sampleRouter(), []impl.RouterOp{raiseOp(0), maskOp(0, true)}, told(5, 0))
	checkCpu(t, "what is pending stays", r, 0, []int64{5}, nil)
}

func TestLimit(t *testing.T) {
	for limit := range int64(17) {
		r := checkOps(t, fmt.Sprintf("Limit %d", limit), sampleRouter(), []impl.RouterOp{limitOp(1, limit)}, told(0))
		checkNumbers(t, "Limits", []int64{r.Cpus[0].Limit, r.Cpus[1].Limit, r.Cpus[2].Limit}, []int64{0, limit, 16})
		checkCpu(t, "all else stays", r, 1, []int64{7, 8, 40}, []int64{9, 30})
	}
	for _, limit := range []int64{-1, 17} {
		r := checkOps(t, fmt.Sprintf("Limit %d", limit), sampleRouter(), []impl.RouterOp{limitOp(1, limit)}, []impl.RouterOut{refused(impl.ErrForm)})
		checkNumber(t, "Limit", r.Cpus[1].Limit, 2)
	}
}

// Signals that are behind the route go its way; what is pending stays where it is.
func TestRoute(t *testing.T) {
	r := checkOps(t, "while pending", sampleRouter(), []impl.RouterOp{raiseOp(0), raiseOp(1), routeOp(0, 2, 11), routeOp(1, 2, 12)}, told(5, 20, 0, 0))
	checkCpu(t, "cpu 0", r, 0, []int64{5, 20}, nil)
	checkCpu(t, "cpu 2", r, 2, []int64{63}, nil)
	checkAlike(t, "its lanes", r.Lanes[:2], []impl.Lane{{Cpu: 2, Vector: 11, High: true}, {Cpu: 2, Vector: 12, Level: true, High: true}})
	r = checkOps(t, "taken and done at cpu 0", r, []impl.RouterOp{takeOp(0), doneOp(0), takeOp(0), doneOp(0), takeOp(0)}, append(told(20, 20, 5, 5), refused(impl.ErrNone)))
	checkCpu(t, "cpu 2 behind it", r, 2, []int64{63}, nil)
	r = checkOps(t, "done at cpu 2", r, []impl.RouterOp{limitOp(2, 0), takeOp(2), doneOp(2), lowerOp(0), raiseOp(0)}, told(0, 63, 63, 0, 11))
	checkCpu(t, "cpu 2 behind its own", r, 2, []int64{11, 12}, nil)
	for _, masked := range []bool{false, true} {
		r = withLane(impl.Lane{Vector: 9, Level: true, Masked: masked, High: true})
		r = checkOps(t, "flags stay", r, []impl.RouterOp{routeOp(2, 0, 63)}, told(0))
		checkAlike(t, "flags stay", r.Lanes[2], impl.Lane{Vector: 63, Level: true, Masked: masked, High: true})
		checkCpu(t, "a route is no signal", r, 0, nil, nil)
	}
}

func TestAsManyOpsAsMayBe(t *testing.T) {
	r := sampleRouter()
	ops := make([]impl.RouterOp, 1001)
	for at := range ops {
		ops[at] = []impl.RouterOp{raiseOp(1), takeOp(0), lowerOp(1), doneOp(0)}[at%4]
	}
	got := checkRouterRun(t, "MaxList", r, ops[:1000])
	checkNumber(t, "answers", int64(len(got.Outs)), 1000)
	checkAlike(t, "the last answers", got.Outs[996:], told(20, 20, 0, 20))
	checkAlike(t, "one more", impl.RunRouter(r, ops), impl.RouterRun{Code: impl.ErrSize})
	checkAlike(t, "one more at nothing", impl.RunRouter(impl.Router{}, ops), impl.RouterRun{Code: impl.ErrSize})
	checkAlike(t, "no ops", impl.RunRouter(r, nil), impl.RouterRun{Router: r})
	checkAlike(t, "none at all", impl.RunRouter(r, []impl.RouterOp{}), impl.RouterRun{Router: r})
}

func TestP14ARightRouterStaysRight(t *testing.T) {
	rng := rand.New(rand.NewSource(82))
	outs := map[impl.RouterOut]int{}
	kinds := map[[2]int64]int{}
	for range 600 {
		r := randomRouter(rng)
		ops := randomOps(rng, r, 60)
		got := checkRouterRun(t, fmt.Sprintf("%+v, %+v", r, ops), r, ops)
		checkNumbers(t, "Code, RouterFault", []int64{got.Code, impl.RouterFault(got.Router)}, []int64{impl.OK, impl.OK})
		if !plainRight(got.Router) || t.Failed() {
			t.Fatalf("%+v became %+v by %+v", r, got.Router, ops)
		}
		for at, out := range got.Outs {
			outs[out]++
			kinds[[2]int64{ops[at].Kind, out.Code}]++
		}
	}
	// Ops that are all refused, or never, would tell nothing.
	for kind, codes := range map[int64][]int64{1: {0, 1, 6}, 2: {0, 1, 6}, 3: {0, 1, 7}, 4: {0, 1, 5}, 5: {0, 1, 6}, 6: {0, 1}, 7: {0, 1}, 8: {0, 1}} {
		for _, code := range codes {
			if kinds[[2]int64{kind, code}] < 10 {
				t.Errorf("kind %d answers %d but %d times", kind, code, kinds[[2]int64{kind, code}])
			}
		}
	}
	if len(outs) < 60 {
		t.Errorf("%d answers in all", len(outs))
	}
}

// checkTaken holds a take against the cpu as it was ahead of it.
func checkTaken(t *testing.T, what string, was impl.RouterCpu, is impl.RouterCpu, vector int64) {
	t.Helper()
	if !slices.Contains(was.Pending, vector) || slices.Contains(is.Pending, vector) || len(is.Pending) != len(was.Pending)-1 {
		t.Errorf("%s: vector %d was taken out of %v, which leaves %v", what, vector, was.Pending, is.Pending)
	}
	if vector/4 < was.Limit {
		t.Errorf("%s: vector %d is below the Limit %d", what, vector, was.Limit)
	}
	for _, begun := range was.Service {
		if vector/4 <= begun/4 {
			t.Errorf("%s: vector %d is not above %v", what, vector, was.Service)
		}
	}
	checkNumbers(t, what+": Service", is.Service, append(slices.Clone(was.Service), vector))
	for _, other := range was.Pending {
		if other > vector {
			t.Errorf("%s: vector %d was taken, not %d", what, vector, other)
		}
	}
}

func TestP14WhatIsTaken(t *testing.T) {
	rng := rand.New(rand.NewSource(83))
	taken := 0
	for range 1500 {
		r := randomRouter(rng)
		for range 20 {
			op := randomOp(rng, r)
			if rng.Intn(2) == 0 {
				op = takeOp(rng.Int63n(int64(len(r.Cpus))))
			}
			got := impl.RunRouter(r, []impl.RouterOp{op})
			for cpu := range got.Router.Cpus {
				what := fmt.Sprintf("cpu %d of %+v by %+v", cpu, r, op)
				was, is := r.Cpus[cpu], got.Router.Cpus[cpu]
				if op.Kind == impl.RtTake && got.Outs[0].Code == impl.OK && op.Cpu == int64(cpu) {
					taken++
					checkTaken(t, what, was, is, got.Outs[0].Vector)
				} else if len(is.Service) > len(was.Service) || len(is.Pending) < len(was.Pending) {
					t.Errorf("%s: taken without a take", what)
				}
			}
			r = got.Router
		}
		if t.Failed() {
			return
		}
	}
	if taken < 2000 {
		t.Errorf("%d were taken", taken)
	}
}

// A signal comes to the cpu and the vector of its remap, if it has one, and changes nothing else.
func TestP14WhereASignalComes(t *testing.T) {
	rng := rand.New(rand.NewSource(84))
	for range 100 {
		r := randomRouter(rng)
		for device := int64(-1); device < 4; device++ {
			for index := range int64(5) {
				want, out := copyRouter(r), refused(impl.ErrRight)
				for _, remap := range r.Remaps {
					if remap.Device == device && remap.Index == index {
						cpu := &want.Cpus[remap.Cpu]
						cpu.Pending = append(cpu.Pending, remap.Vector)
						slices.Sort(cpu.Pending)
						cpu.Pending = slices.Compact(cpu.Pending)
						out = impl.RouterOut{Vector: remap.Vector}
					}
				}
				got := impl.RunRouter(r, []impl.RouterOp{messageOp(device, index)})
				checkAlike(t, fmt.Sprintf("%d of %d", index, device), got, impl.RouterRun{Router: want, Outs: []impl.RouterOut{out}})
			}
		}
	}
	r := impl.Router{Cpus: make([]impl.RouterCpu, 2), Remaps: manyRemaps(1000)}
	for at := range r.Remaps {
		r.Remaps[at].Cpu, r.Remaps[at].Vector = int64(at%2), int64(at%64)
	}
	for at, remap := range r.Remaps {
		got := impl.RunRouter(r, []impl.RouterOp{messageOp(remap.Device, remap.Index)})
		checkAlike(t, "one of many", got.Outs, told(remap.Vector))
		checkCpu(t, "one of many", got.Router, at%2, []int64{remap.Vector}, nil)
		checkCpu(t, "one of many", got.Router, 1-at%2, nil, nil)
	}
}

// Ops in two parts come to what they come to in one.
func TestRouterInTwoParts(t *testing.T) {
	rng := rand.New(rand.NewSource(85))
	for range 100 {
		r := randomRouter(rng)
		ops := randomOps(rng, r, 40)
		whole := impl.RunRouter(r, ops)
		for first := 0; first <= 40; first += 8 {
			one := impl.RunRouter(r, ops[:first])
			two := impl.RunRouter(one.Router, ops[first:])
			checkAlike(t, "two parts", impl.RouterRun{Router: two.Router, Outs: slices.Concat(one.Outs, two.Outs)}, whole)
		}
	}
}

// roomy is a router whose lists have room behind their ends, where 99 stands.
func roomy(r impl.Router) impl.Router {
	more := func(vectors []int64) []int64 { return append(slices.Clone(vectors), 99, 99, 99)[:len(vectors)] }
	r = copyRouter(r)
	for at := range r.Cpus {
		r.Cpus[at].Pending, r.Cpus[at].Service = more(r.Cpus[at].Pending), more(r.Cpus[at].Service)
	}
	return r
}

func checkRoom(t *testing.T, what string, r impl.Router) {
	t.Helper()
	for _, cpu := range r.Cpus {
		for _, vectors := range [][]int64{cpu.Pending, cpu.Service} {
			checkNumbers(t, what, vectors[len(vectors):len(vectors)+3], []int64{99, 99, 99})
		}
	}
}

func TestAnswersOfRunRouterAreNewMemory(t *testing.T) {
	rng := rand.New(rand.NewSource(86))
	for range 100 {
		r := roomy(randomRouter(rng))
		before := copyRouter(r)
		got := impl.RunRouter(r, randomOps(rng, r, rng.Intn(30))).Router
		checkRoom(t, "behind a run", r)
		for at := range got.Lanes {
			got.Lanes[at] = impl.Lane{Cpu: 77}
		}
		for at := range got.Remaps {
			got.Remaps[at] = impl.Remap{Cpu: 77}
		}
		for at := range got.Cpus {
			cpu := &got.Cpus[at]
			for in := range cpu.Pending {
				cpu.Pending[in] = 77
			}
			_ = append(cpu.Pending, 78, 78, 78)
			checkNumbers(t, "Service beside Pending", []int64{int64(slices.Index(cpu.Service, 77)), int64(slices.Index(cpu.Service, 78))}, []int64{-1, -1})
			for in := range cpu.Service {
				cpu.Service[in] = 76
			}
			_ = append(cpu.Service, 76, 76, 76)
			checkNumber(t, "Pending beside Service", int64(slices.Index(cpu.Pending, 76)), -1)
			cpu.Limit = 77
		}
		checkAlike(t, "what was handed in", r, before)
		checkRoom(t, "behind a write into the answer", r)
	}
}

func TestRunRouterKeepsNothingForTheNextCall(t *testing.T) {
	ops := []impl.RouterOp{raiseOp(0), raiseOp(1), takeOp(0), messageOp(0, 0), takeOp(1)}
	first := impl.RunRouter(sampleRouter(), ops)
	impl.RunRouter(withCpu(impl.RouterCpu{Pending: inSteps(0, 1, 64)}), ops)
	checkAlike(t, "once more", impl.RunRouter(sampleRouter(), ops), first)
}

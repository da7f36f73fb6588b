package tests

import (
	"fmt"
	"math/rand"
	"slices"
	"testing"

	"loop.example/g00038/impl"
)

func raiseOp(lane int64) impl.RouterOp { return impl.RouterOp{Kind: impl.RtRaise, Lane: lane} }
func lowerOp(lane int64) impl.RouterOp { return impl.RouterOp{Kind: impl.RtLower, Lane: lane} }
func takeOp(cpu int64) impl.RouterOp   { return impl.RouterOp{Kind: impl.RtTake, Cpu: cpu} }
func doneOp(cpu int64) impl.RouterOp   { return impl.RouterOp{Kind: impl.RtDone, Cpu: cpu} }

func messageOp(device int64, index int64) impl.RouterOp {
	return impl.RouterOp{Kind: impl.RtMessage, Device: device, Vector: index}
}

func maskOp(lane int64, masked bool) impl.RouterOp {
	return impl.RouterOp{Kind: impl.RtMask, Lane: lane, Flag: masked}
}

func limitOp(cpu int64, limit int64) impl.RouterOp {
	return impl.RouterOp{Kind: impl.RtLimit, Cpu: cpu, Vector: limit}
}

func routeOp(lane int64, cpu int64, vector int64) impl.RouterOp {
	return impl.RouterOp{Kind: impl.RtRoute, Lane: lane, Cpu: cpu, Vector: vector}
}

// told are answers of ops that were done, each with its vector.
func told(vectors ...int64) []impl.RouterOut {
	var outs []impl.RouterOut
	for _, vector := range vectors {
		outs = append(outs, impl.RouterOut{Vector: vector})
	}
	return outs
}

func refused(code int64) impl.RouterOut { return impl.RouterOut{Code: code} }

func copyRouter(r impl.Router) impl.Router {
	own := impl.Router{Lanes: slices.Clone(r.Lanes), Remaps: slices.Clone(r.Remaps)}
	for _, cpu := range r.Cpus {
		own.Cpus = append(own.Cpus, impl.RouterCpu{Limit: cpu.Limit, Pending: slices.Clone(cpu.Pending), Service: slices.Clone(cpu.Service)})
	}
	return own
}

// checkAlike holds things with lists against each other, of which an empty one and none are alike.
func checkAlike(t *testing.T, what string, got any, want any) {
	t.Helper()
	if fmt.Sprintf("%+v", got) != fmt.Sprintf("%+v", want) {
		t.Errorf("%s: got %+v, want %+v", what, got, want)
	}
}

func among(n int64, least int64, most int64) bool { return least <= n && n <= most }

// plainRight is what chapter 9 says of RouterFault, said once more.
func plainRight(r impl.Router) bool {
	last := int64(len(r.Cpus)) - 1
	right := len(r.Lanes) <= 64 && among(last, 0, 7) && len(r.Remaps) <= 1000
	for _, lane := range r.Lanes {
		right = right && among(lane.Cpu, 0, last) && among(lane.Vector, 0, 63)
	}
	for _, cpu := range r.Cpus {
		right = right && among(cpu.Limit, 0, 16) && len(cpu.Service) <= 16
		ahead := int64(-1)
		for _, vector := range cpu.Pending {
			right = right && among(vector, ahead+1, 63)
			ahead = vector
		}
		ahead = -1
		for _, vector := range cpu.Service {
			right = right && among(vector, 0, 63) && vector/4 > ahead
			ahead = vector / 4
		}
	}
	ahead := int64(-1)
	for _, remap := range r.Remaps {
		right = right && among(remap.Device, 0, 255) && among(remap.Index, 0, 255)
		right = right && among(remap.Cpu, 0, last) && among(remap.Vector, 0, 63) && 256*remap.Device+remap.Index > ahead
		ahead = 256*remap.Device + remap.Index
	}
	return right
}

// plainRouter is what chapter 9 says of RunRouter, said once more: each cpu's pending vectors are marks.
type plainRouter struct {
	lanes   []impl.Lane
	limits  []int64
	pending [8][64]bool
	service [8][]int64
	remaps  map[[2]int64]impl.Remap
}

func newPlainRouter(r impl.Router) *plainRouter {
	p := &plainRouter{lanes: slices.Clone(r.Lanes), remaps: map[[2]int64]impl.Remap{}}
	for at, cpu := range r.Cpus {
		p.limits = append(p.limits, cpu.Limit)
		p.service[at] = slices.Clone(cpu.Service)
		for _, vector := range cpu.Pending {
			p.pending[at][vector] = true
		}
	}
	for _, remap := range r.Remaps {
		p.remaps[[2]int64{remap.Device, remap.Index}] = remap
	}
	return p
}

// router is that of p, whose remaps are those that it had.
func (p *plainRouter) router(remaps []impl.Remap) impl.Router {
	r := impl.Router{Lanes: p.lanes, Remaps: remaps}
	for at, limit := range p.limits {
		cpu := impl.RouterCpu{Limit: limit, Service: p.service[at]}
		for vector, is := range p.pending[at] {
			if is {
				cpu.Pending = append(cpu.Pending, int64(vector))
			}
		}
		r.Cpus = append(r.Cpus, cpu)
	}
	return r
}

func (p *plainRouter) wrong(op impl.RouterOp) bool {
	lane := !among(op.Lane, 0, int64(len(p.lanes))-1)
	cpu := !among(op.Cpu, 0, int64(len(p.limits))-1)
	switch op.Kind {
	case 1, 2, 6:
		return lane
	case 3:
		return !among(op.Vector, 0, 255)
	case 4, 5:
		return cpu
	case 7:
		return cpu || !among(op.Vector, 0, 16)
	case 8:
		return lane || cpu || !among(op.Vector, 0, 63)
	}
	return true
}

func (p *plainRouter) take(cpu int64) (vector int64, code int64) {
	for vector := int64(63); vector >= 0; vector-- {
		above := vector/4 >= p.limits[cpu]
		for _, begun := range p.service[cpu] {
			above = above && vector/4 > begun/4
		}
		if p.pending[cpu][vector] && above {
			p.pending[cpu][vector] = false
			p.service[cpu] = append(p.service[cpu], vector)
			return vector, impl.OK
		}
	}
	return 0, impl.ErrNone
}

func (p *plainRouter) done(cpu int64) (vector int64, code int64) {
	count := len(p.service[cpu])
	if count == 0 {
		return 0, impl.ErrState
	}
	vector = p.service[cpu][count-1]
	p.service[cpu] = p.service[cpu][:count-1]
	for _, lane := range p.lanes {
		if lane.Cpu == cpu && lane.Level && lane.High && !lane.Masked {
			p.pending[cpu][lane.Vector] = true
		}
	}
	return vector, impl.OK
}

// lane does an op of a lane that is there.
func (p *plainRouter) lane(op impl.RouterOp) (vector int64, code int64) {
	lane := &p.lanes[op.Lane]
	was := *lane
	switch op.Kind {
	case 1, 2:
		if lane.High == (op.Kind == 1) {
			return 0, impl.ErrState
		}
		lane.High = !lane.High
		if lane.High && !lane.Masked {
			p.pending[lane.Cpu][lane.Vector] = true
			return lane.Vector, impl.OK
		}
	case 6:
		lane.Masked = op.Flag
		if was.Masked && !op.Flag && lane.Level && lane.High {
			p.pending[lane.Cpu][lane.Vector] = true
		}
	case 8:
		lane.Cpu, lane.Vector = op.Cpu, op.Vector
	}
	return 0, impl.OK
}

func (p *plainRouter) do(op impl.RouterOp) (vector int64, code int64) {
	if p.wrong(op) {
		return 0, impl.ErrForm
	}
	switch op.Kind {
	case 3:
		remap, is := p.remaps[[2]int64{op.Device, op.Vector}]
		if !is {
			return 0, impl.ErrRight
		}
		p.pending[remap.Cpu][remap.Vector] = true
		return remap.Vector, impl.OK
	case 4:
		return p.take(op.Cpu)
	case 5:
		return p.done(op.Cpu)
	case 7:
		p.limits[op.Cpu] = op.Vector
		return 0, impl.OK
	}
	return p.lane(op)
}

// plainRouterRun is for right routers and lists of ops that are not too long.
func plainRouterRun(r impl.Router, ops []impl.RouterOp) impl.RouterRun {
	p := newPlainRouter(r)
	var outs []impl.RouterOut
	for _, op := range ops {
		vector, code := p.do(op)
		outs = append(outs, impl.RouterOut{Code: code, Vector: vector})
	}
	return impl.RouterRun{Router: p.router(r.Remaps), Outs: outs}
}

// checkRouterRun holds a run against plain ops, and what was handed in against what it was.
func checkRouterRun(t *testing.T, what string, r impl.Router, ops []impl.RouterOp) impl.RouterRun {
	t.Helper()
	before, asked := copyRouter(r), slices.Clone(ops)
	got := impl.RunRouter(r, ops)
	checkAlike(t, what, got, plainRouterRun(r, ops))
	checkAlike(t, what+": what was handed in", r, before)
	checkAlike(t, what+": the ops", ops, asked)
	return got
}

// checkOps holds the answers of ops against those told, too, and tells the router behind them.
func checkOps(t *testing.T, what string, r impl.Router, ops []impl.RouterOp, outs []impl.RouterOut) impl.Router {
	t.Helper()
	got := checkRouterRun(t, what, r, ops)
	checkNumber(t, what+": Code", got.Code, impl.OK)
	checkAlike(t, what+": Outs", got.Outs, outs)
	checkNumber(t, what+": RouterFault behind it", impl.RouterFault(got.Router), impl.OK)
	return got.Router
}

func checkCpu(t *testing.T, what string, r impl.Router, number int, pending []int64, service []int64) {
	t.Helper()
	checkNumbers(t, what+": Pending", r.Cpus[number].Pending, pending)
	checkNumbers(t, what+": Service", r.Cpus[number].Service, service)
}

// sampleRouter has three cpus; its lanes 0 and 1 are led to cpu 0, 2 and 3 to cpu 1, of which 1 and 3 have Level.
func sampleRouter() impl.Router {
	return impl.Router{
		Lanes: []impl.Lane{{Vector: 5}, {Vector: 20, Level: true}, {Cpu: 1, Vector: 63}, {Cpu: 1, Level: true}},
		Cpus:  []impl.RouterCpu{{}, {Limit: 2, Pending: []int64{7, 8, 40}, Service: []int64{9, 30}}, {Limit: 16, Pending: []int64{63}}},
		Remaps: []impl.Remap{
			{Device: 0, Index: 0, Cpu: 1, Vector: 41}, {Device: 3, Index: 7, Vector: 9}, {Device: 3, Index: 8, Cpu: 2, Vector: 0}, {Device: 255, Index: 255, Cpu: 1, Vector: 63},
		},
	}
}

func randomVectors(rng *rand.Rand, least int64, step int64) []int64 {
	var vectors []int64
	for vector := rng.Int63n(step) + least; vector < 64; vector += least + rng.Int63n(step) {
		vectors = append(vectors, vector)
	}
	return vectors
}

// randomRouter is right; few vectors and devices make ops meet each other.
func randomRouter(rng *rand.Rand) impl.Router {
	r := impl.Router{}
	cpus := 1 + rng.Int63n(8)
	for range cpus {
		cpu := impl.RouterCpu{Limit: rng.Int63n(17) * rng.Int63n(2), Pending: randomVectors(rng, 1, 30)}
		if rng.Intn(2) == 0 {
			cpu.Service = randomVectors(rng, 4, 40)
		}
		r.Cpus = append(r.Cpus, cpu)
	}
	for range rng.Intn(12) {
		r.Lanes = append(r.Lanes, impl.Lane{Cpu: rng.Int63n(cpus), Vector: rng.Int63n(64), Level: rng.Intn(2) == 0, Masked: rng.Intn(3) == 0, High: rng.Intn(2) == 0})
	}
	for device := range int64(3) {
		for index := range int64(4) {
			if rng.Intn(3) > 0 {
				r.Remaps = append(r.Remaps, impl.Remap{Device: device, Index: index, Cpu: rng.Int63n(cpus), Vector: rng.Int63n(64)})
			}
		}
	}
	return r
}

// randomOp has now and then a part that is none for the router.
func randomOp(rng *rand.Rand, r impl.Router) impl.RouterOp {
	op := impl.RouterOp{
		Kind: 1 + rng.Int63n(8), Lane: rng.Int63n(int64(len(r.Lanes)) + 1), Cpu: rng.Int63n(int64(len(r.Cpus))),
		Vector: rng.Int63n([]int64{5, 17, 64}[rng.Intn(3)]), Device: rng.Int63n(4), Flag: rng.Intn(2) == 0,
	}
	if rng.Intn(10) == 0 {
		odd := []int64{-1, 8, 9, 16, 17, 63, 64, 255, 256}[rng.Intn(9)]
		*[]*int64{&op.Kind, &op.Lane, &op.Cpu, &op.Vector, &op.Device}[rng.Intn(5)] = odd
	}
	return op
}

func randomOps(rng *rand.Rand, r impl.Router, count int) []impl.RouterOp {
	var ops []impl.RouterOp
	for range count {
		ops = append(ops, randomOp(rng, r))
	}
	return ops
}

package tests

import (
	"math"
	"math/rand"
	"testing"

	"loop.example/g00038/impl"
)

func manyLanes(count int, last impl.Lane) []impl.Lane {
	lanes := make([]impl.Lane, count)
	lanes[count-1] = last
	return lanes
}

func manyRemaps(count int64) []impl.Remap {
	var remaps []impl.Remap
	for number := range count {
		remaps = append(remaps, impl.Remap{Device: number / 256, Index: number % 256})
	}
	return remaps
}

// inSteps are vectors from first on, each that much above the one ahead.
func inSteps(first int64, step int64, count int) []int64 {
	var vectors []int64
	for range count {
		vectors = append(vectors, first)
		first += step
	}
	return vectors
}

func withLane(lane impl.Lane) impl.Router {
	r := sampleRouter()
	r.Lanes[2] = lane
	return r
}

func withCpu(cpu impl.RouterCpu) impl.Router {
	r := sampleRouter()
	r.Cpus[1] = cpu
	return r
}

func withRemaps(remaps ...impl.Remap) impl.Router {
	r := sampleRouter()
	r.Remaps = remaps
	return r
}

func rightRouters() map[string]impl.Router {
	return map[string]impl.Router{
		"the sample":                   sampleRouter(),
		"one cpu alone":                {Cpus: make([]impl.RouterCpu, 1)},
		"MaxCpus":                      {Cpus: make([]impl.RouterCpu, 8)},
		"empty lists":                  {Lanes: []impl.Lane{}, Cpus: []impl.RouterCpu{{Pending: []int64{}, Service: []int64{}}}, Remaps: []impl.Remap{}},
		"MaxLanes":                     {Lanes: manyLanes(64, impl.Lane{Cpu: 7, Vector: 63}), Cpus: make([]impl.RouterCpu, 8)},
		"MaxList remaps":               {Cpus: make([]impl.RouterCpu, 1), Remaps: manyRemaps(1000)},
		"a lane with all flags":        withLane(impl.Lane{Level: true, Masked: true, High: true}),
		"a lane to the last cpu":       withLane(impl.Lane{Cpu: 2, Vector: 63}),
		"a lane's vector 0":            withLane(impl.Lane{}),
		"two lanes alike":              withLane(impl.Lane{Vector: 5}),
		"Limit 0":                      withCpu(impl.RouterCpu{Limit: 0}),
		"Limit 16":                     withCpu(impl.RouterCpu{Limit: 16}),
		"all vectors pending":          withCpu(impl.RouterCpu{Pending: inSteps(0, 1, 64)}),
		"vectors 0 and 63 pending":     withCpu(impl.RouterCpu{Pending: []int64{0, 63}}),
		"Service of 16":                withCpu(impl.RouterCpu{Service: inSteps(0, 4, 16)}),
		"Service of the last ones":     withCpu(impl.RouterCpu{Service: inSteps(3, 4, 16)}),
		"neighbours of two priorities": withCpu(impl.RouterCpu{Service: []int64{3, 4}}),
		"Service of 0 and 63":          withCpu(impl.RouterCpu{Service: []int64{0, 63}}),
		"pending and in Service":       withCpu(impl.RouterCpu{Pending: []int64{8, 9}, Service: []int64{9}}),
		"Service below the Limit":      withCpu(impl.RouterCpu{Limit: 16, Service: []int64{1}}),
		"no remaps":                    withRemaps(),
		"remaps at both ends":          withRemaps(impl.Remap{}, impl.Remap{Device: 255, Index: 255, Cpu: 2, Vector: 63}),
		"Index falls with Device":      withRemaps(impl.Remap{Device: 1, Index: 255}, impl.Remap{Device: 2}),
		"remaps to one vector":         withRemaps(impl.Remap{Vector: 9}, impl.Remap{Index: 1, Vector: 9}),
	}
}

// wrongRouters have one fault each.
func wrongRouters() map[string]impl.Router {
	one, least, most := make([]impl.RouterCpu, 1), int64(math.MinInt64), int64(math.MaxInt64)
	return map[string]impl.Router{
		"nothing":                      {},
		"no cpus":                      {Cpus: []impl.RouterCpu{}},
		"no cpus, a lane":              {Lanes: make([]impl.Lane, 1)},
		"MaxCpus and one":              {Cpus: make([]impl.RouterCpu, 9)},
		"MaxLanes and one":             {Lanes: make([]impl.Lane, 65), Cpus: one},
		"MaxList remaps and one":       {Cpus: one, Remaps: manyRemaps(1001)},
		"the last of MaxLanes":         {Lanes: manyLanes(64, impl.Lane{Cpu: 1}), Cpus: one},
		"a fault of the last cpu":      {Cpus: append(make([]impl.RouterCpu, 7), impl.RouterCpu{Limit: 17})},
		"a lane to cpu -1":             withLane(impl.Lane{Cpu: -1}),
		"a lane behind the last cpu":   withLane(impl.Lane{Cpu: 3}),
		"a lane to the least cpu":      withLane(impl.Lane{Cpu: least}),
		"a lane to the greatest cpu":   withLane(impl.Lane{Cpu: most}),
		"a lane's vector -1":           withLane(impl.Lane{Vector: -1}),
		"a lane's vector 64":           withLane(impl.Lane{Vector: 64}),
		"a lane's greatest vector":     withLane(impl.Lane{Vector: most}),
		"Limit -1":                     withCpu(impl.RouterCpu{Limit: -1}),
		"Limit 17":                     withCpu(impl.RouterCpu{Limit: 17}),
		"the least Limit":              withCpu(impl.RouterCpu{Limit: least}),
		"vector -1 pending":            withCpu(impl.RouterCpu{Pending: []int64{-1}}),
		"vector 64 pending":            withCpu(impl.RouterCpu{Pending: []int64{64}}),
		"vectors -1 and 0 pending":     withCpu(impl.RouterCpu{Pending: []int64{-1, 0}}),
		"vectors 63 and 64 pending":    withCpu(impl.RouterCpu{Pending: []int64{63, 64}}),
		"Pending falls":                withCpu(impl.RouterCpu{Pending: []int64{5, 4}}),
		"Pending falls at its end":     withCpu(impl.RouterCpu{Pending: []int64{1, 2, 9, 8}}),
		"two alike pending":            withCpu(impl.RouterCpu{Pending: []int64{5, 5}}),
		"two alike of 0":               withCpu(impl.RouterCpu{Pending: []int64{0, 0}}),
		"vector -1 in Service":         withCpu(impl.RouterCpu{Service: []int64{-1}}),
		"vector 64 in Service":         withCpu(impl.RouterCpu{Service: []int64{64}}),
		"vectors -1 and 0 in Service":  withCpu(impl.RouterCpu{Service: []int64{-1, 0}}),
		"vector -4 ahead of 0":         withCpu(impl.RouterCpu{Service: []int64{-4, 0}}),
		"vector 64 behind 60":          withCpu(impl.RouterCpu{Service: []int64{60, 64}}),
		"Service of 17":                withCpu(impl.RouterCpu{Service: inSteps(0, 4, 17)}),
		"Service of 17 from 3":         withCpu(impl.RouterCpu{Service: append(inSteps(3, 4, 16), 63)}),
		"one priority twice":           withCpu(impl.RouterCpu{Service: []int64{4, 7}}),
		"one priority twice at 0":      withCpu(impl.RouterCpu{Service: []int64{0, 1}}),
		"two alike in Service":         withCpu(impl.RouterCpu{Service: []int64{5, 5}}),
		"Service falls":                withCpu(impl.RouterCpu{Service: []int64{40, 9}}),
		"Service falls at its end":     withCpu(impl.RouterCpu{Service: []int64{1, 9, 40, 39}}),
		"Service falls in a priority":  withCpu(impl.RouterCpu{Service: []int64{7, 4}}),
		"remaps fall by Device":        withRemaps(impl.Remap{Device: 2}, impl.Remap{Device: 1, Index: 9}),
		"remaps fall by Index":         withRemaps(impl.Remap{Device: 1, Index: 9}, impl.Remap{Device: 1, Index: 8}),
		"two remaps alike":             withRemaps(impl.Remap{Device: 1, Index: 9}, impl.Remap{Device: 1, Index: 9}),
		"two alike to two vectors":     withRemaps(impl.Remap{Vector: 1}, impl.Remap{Vector: 2}),
		"the last remaps alike":        {Cpus: one, Remaps: append(manyRemaps(999), impl.Remap{Device: 998 / 256, Index: 998 % 256})},
		"Device -1":                    withRemaps(impl.Remap{Device: -1}),
		"Device 256":                   withRemaps(impl.Remap{Device: 256}),
		"Index -1":                     withRemaps(impl.Remap{Index: -1}),
		"Index 256":                    withRemaps(impl.Remap{Index: 256}),
		"the greatest Index":           withRemaps(impl.Remap{Index: most}),
		"a remap to cpu -1":            withRemaps(impl.Remap{Cpu: -1}),
		"a remap behind the last cpu":  withRemaps(impl.Remap{Cpu: 3}),
		"a remap's vector -1":          withRemaps(impl.Remap{Vector: -1}),
		"a remap's vector 64":          withRemaps(impl.Remap{Vector: 64}),
		"only the last remap is wrong": withRemaps(impl.Remap{}, impl.Remap{Device: 4, Vector: 64}),
	}
}

func TestRouterFaultOfRightRouters(t *testing.T) {
	for what, r := range rightRouters() {
		checkNumber(t, what, impl.RouterFault(r), impl.OK)
		checkAlike(t, what+": no ops", impl.RunRouter(r, nil), impl.RouterRun{Router: r})
		if !plainRight(r) {
			t.Errorf("%s is wrong by the plain rules", what)
		}
	}
}

func TestRouterFaultOfWrongRouters(t *testing.T) {
	for what, r := range wrongRouters() {
		before := copyRouter(r)
		checkNumber(t, what, impl.RouterFault(r), impl.ErrForm)
		for _, count := range []int{0, 1, 1000} {
			checkAlike(t, what+": a run", impl.RunRouter(r, make([]impl.RouterOp, count)), impl.RouterRun{Code: impl.ErrForm})
		}
		checkAlike(t, what+": too many ops", impl.RunRouter(r, make([]impl.RouterOp, 1001)), impl.RouterRun{Code: impl.ErrSize})
		checkAlike(t, what+": what was handed in", r, before)
		if plainRight(r) {
			t.Errorf("%s is right by the plain rules", what)
		}
	}
}

// One number of a right router becomes another one, at an edge or not.
func TestRouterFaultOfRandomRouters(t *testing.T) {
	rng := rand.New(rand.NewSource(81))
	right := 0
	for range 4000 {
		r := randomRouter(rng)
		numbers := []*int64{}
		for at := range r.Lanes {
			numbers = append(numbers, &r.Lanes[at].Cpu, &r.Lanes[at].Vector)
		}
		for at := range r.Cpus {
			numbers = append(numbers, &r.Cpus[at].Limit)
			for in := range r.Cpus[at].Pending {
				numbers = append(numbers, &r.Cpus[at].Pending[in])
			}
			for in := range r.Cpus[at].Service {
				numbers = append(numbers, &r.Cpus[at].Service[in])
			}
		}
		for at := range r.Remaps {
			remap := &r.Remaps[at]
			numbers = append(numbers, &remap.Device, &remap.Index, &remap.Cpu, &remap.Vector)
		}
		number := numbers[rng.Intn(len(numbers))]
		*number = []int64{-1, 0, 1, 7, 8, 16, 17, 63, 64, 255, 256, *number, *number + 1, *number - 1, *number + 4}[rng.Intn(15)]
		want := int64(impl.ErrForm)
		if plainRight(r) {
			want, right = impl.OK, right+1
		}
		if got := impl.RouterFault(r); got != want {
			t.Fatalf("%+v: got %d, want %d", r, got, want)
		}
	}
	if right < 1000 || right > 3000 {
		t.Errorf("%d of 4000 are right", right)
	}
}

package tests

import (
	"fmt"
	"math/rand"
	"slices"
	"sync"
	"testing"

	"loop.example/g00038/impl"
)

// eachQuantum tells, for each quantum of a run, who was awake behind its wakes, and its picks.
func eachQuantum(a schedAsk, run impl.SchedRun, look func(quantum int64, awake []bool, picks []int64)) {
	var awake []bool
	for _, v := range a.l {
		awake = append(awake, v.Awake)
	}
	for quantum := range a.quanta {
		for _, w := range a.wakes {
			if w.At == quantum {
				awake[w.Vcpu] = w.Awake
			}
		}
		look(quantum, awake, run.Picks[quantum*a.pcpus:(quantum+1)*a.pcpus])
	}
}

// checkPickedOnce holds each quantum to nobody twice, and nobody who sleeps.
func checkPickedOnce(t *testing.T, a schedAsk, run impl.SchedRun) {
	t.Helper()
	checkNumber(t, a.String()+": Picks", int64(len(run.Picks)), a.pcpus*a.quanta)
	eachQuantum(a, run, func(quantum int64, awake []bool, picks []int64) {
		times := make([]int64, len(a.l))
		for pcpu, pick := range picks {
			if pick == nobodyRan {
				continue
			}
			times[pick]++
			if times[pick] > 1 || !awake[pick] {
				t.Errorf("%s: quantum %d, real one %d: %d was picked %d times, awake %v", a, quantum, pcpu, pick, times[pick], awake[pick])
			}
			if a.way != gangWay && a.l[pick].Mask>>pcpu&1 == 0 {
				t.Errorf("%s: quantum %d: %d has no real one %d", a, quantum, pick, pcpu)
			}
		}
	})
}

// checkNotIdle holds each real processor that is idle to nobody who could have had it.
func checkNotIdle(t *testing.T, a schedAsk, run impl.SchedRun) (idle int) {
	t.Helper()
	eachQuantum(a, run, func(quantum int64, awake []bool, picks []int64) {
		for pcpu, pick := range picks {
			if pick != nobodyRan {
				continue
			}
			idle++
			for n, v := range a.l {
				if awake[n] && v.Mask>>pcpu&1 == 1 && !slices.Contains(picks[:pcpu], int64(n)) {
					t.Errorf("%s: quantum %d: real one %d is idle, which %d may have", a, quantum, pcpu, n)
				}
			}
		}
	})
	return idle
}

// checkWholeGuests holds each guest to all of those awake or none, side by side and in order.
func checkWholeGuests(t *testing.T, a schedAsk, run impl.SchedRun) (whole int, left int) {
	t.Helper()
	eachQuantum(a, run, func(quantum int64, awake []bool, picks []int64) {
		for guest := range int64(100) {
			var wanted, got []int64
			for n, v := range a.l {
				if v.Guest == guest && awake[n] {
					wanted = append(wanted, int64(n))
				}
			}
			for _, pick := range picks {
				if pick != nobodyRan && a.l[pick].Guest == guest {
					got = append(got, pick)
				}
			}
			switch {
			case len(got) == 0 && len(wanted) > 0:
				left++
			case len(wanted) > 0:
				whole++
				checkNumbers(t, fmt.Sprintf("%s: quantum %d: guest %d", a, quantum, guest), got, wanted)
			}
		}
	})
	return whole, left
}

// checkCounted holds Ran and Stolen to what the picks tell.
func checkCounted(t *testing.T, a schedAsk, run impl.SchedRun) {
	t.Helper()
	want := slices.Clone(a.l)
	eachQuantum(a, run, func(_ int64, awake []bool, picks []int64) {
		for n := range want {
			want[n].Awake = awake[n]
			if slices.Contains(picks, int64(n)) {
				want[n].Ran++
			} else if awake[n] {
				want[n].Stolen++
			}
		}
	})
	for n, v := range run.Vcpus {
		checkEqual(t, fmt.Sprintf("%s: Awake, Ran, Stolen of %d", a, n), impl.Vcpu{Awake: v.Awake, Ran: v.Ran, Stolen: v.Stolen}, impl.Vcpu{Awake: want[n].Awake, Ran: want[n].Ran, Stolen: want[n].Stolen})
	}
}

func TestP34NobodyIsPickedTwice(t *testing.T) {
	rng := rand.New(rand.NewSource(1811))
	for n := range 3000 {
		a := randomAsk(rng, schedWays()[n%3])
		run := checkSched(t, "random", a)
		checkPickedOnce(t, a, run)
		checkCounted(t, a, run)
		if t.Failed() {
			return
		}
	}
}

func TestP34NoRealProcessorIsIdle(t *testing.T) {
	rng := rand.New(rand.NewSource(1812))
	idle := 0
	for n := range 2000 {
		a := randomAsk(rng, []string{creditWay, fairWay}[n%2])
		for at := range a.l {
			if a.way == creditWay {
				a.l[at].Cap = 0
			}
		}
		idle += checkNotIdle(t, a, checkSched(t, "random", a))
		if t.Failed() {
			return
		}
	}
	if idle < 1000 {
		t.Errorf("%d were idle", idle)
	}
}

func TestP34GuestsArePickedAsAWhole(t *testing.T) {
	rng := rand.New(rand.NewSource(1813))
	whole, left := 0, 0
	for range 2000 {
		a := randomAsk(rng, gangWay)
		a.quanta = min(a.quanta, 30)
		w, l := checkWholeGuests(t, a, checkSched(t, "random", a))
		whole, left = whole+w, left+l
		if t.Failed() {
			return
		}
	}
	if whole < 10000 || left < 2000 {
		t.Errorf("%d were picked as a whole, %d not", whole, left)
	}
}

// checkFairShares holds two Weights to what they say of as many quanta, but for a turn.
func checkFairShares(t *testing.T, weights [2]int64, quanta int64) {
	t.Helper()
	l := []impl.Vcpu{{Weight: weights[0], Mask: 1, Awake: true}, {Weight: weights[1], Mask: 1, Awake: true}}
	run := impl.RunFair(l, 1, nil, quanta)
	sum := weights[0] + weights[1]
	for n, v := range run.Vcpus {
		if off := v.Ran*sum - quanta*weights[n]; off > sum || off < -sum {
			t.Errorf("Weights %v: %d ran %d of %d", weights, n, v.Ran, quanta)
		}
	}
	checkNumber(t, fmt.Sprintf("Weights %v: all quanta", weights), run.Vcpus[0].Ran+run.Vcpus[1].Ran, quanta)
}

func TestP35FairSharesAreAsWeightsSay(t *testing.T) {
	for first := int64(10); first <= 90; first++ {
		for second := int64(10); second <= 90; second++ {
			checkFairShares(t, [2]int64{first, second}, 100)
		}
	}
}

func TestP35FairSharesAreSoAllTheTime(t *testing.T) {
	for _, weights := range [][2]int64{{10, 10}, {10, 90}, {90, 10}, {33, 67}, {67, 34}, {89, 90}} {
		for quanta := range int64(101) {
			checkFairShares(t, weights, quanta)
		}
	}
}

// What is told hangs on nothing but what was handed in, also where several ask at once.
func TestSchedulersAnswerAlikeAtOnce(t *testing.T) {
	rng := rand.New(rand.NewSource(1814))
	for n := range 60 {
		a := randomAsk(rng, schedWays()[n%3])
		want := a.plainRun()
		runs := make([]impl.SchedRun, 8)
		var all sync.WaitGroup
		for at := range runs {
			all.Go(func() { runs[at] = a.run() })
		}
		all.Wait()
		for _, run := range runs {
			checkSchedRun(t, a.String(), run, want)
		}
	}
}

package tests

import (
	"fmt"
	"math/big"
	"math/rand"
	"slices"
	"testing"

	"loop.example/g00038/impl"
)

// exactShare is the sum of Budget / Period.
func exactShare(tasks []impl.RtTask) *big.Rat {
	sum := new(big.Rat)
	for _, k := range tasks {
		sum.Add(sum, big.NewRat(k.Budget, k.Period))
	}
	return sum
}

func plainAdmit(tasks []impl.RtTask) bool {
	return plainTasks(tasks) && exactShare(tasks).Cmp(big.NewRat(1, 1)) <= 0
}

func checkAdmit(t *testing.T, what string, tasks []impl.RtTask, want bool) {
	t.Helper()
	before := slices.Clone(tasks)
	checkEqual(t, what+": Admit", impl.Admit(tasks), want)
	checkEqual(t, what+": Admit said once more", plainAdmit(tasks), want)
	checkEqual(t, what+": what was handed in", slices.Equal(tasks, before), true)
}

// rtTasks are of these Periods and Budgets, one behind the other.
func rtTasks(numbers ...int64) []impl.RtTask {
	var tasks []impl.RtTask
	for at := 0; at < len(numbers); at += 2 {
		tasks = append(tasks, impl.RtTask{Period: numbers[at], Budget: numbers[at+1]})
	}
	return tasks
}

func TestTasksOfHowMany(t *testing.T) {
	one := impl.RtTask{Period: 40, Budget: 1}
	for count, right := range map[int]bool{0: true, 1: true, 7: true, 8: true, 9: false, 1000: false, 1001: false, 5000: false} {
		tasks := slices.Repeat([]impl.RtTask{one}, count)
		what := fmt.Sprintf("%d tasks", count)
		checkAdmit(t, what, tasks, right)
		want := faultCode(right)
		if count > 1000 {
			want = impl.ErrSize
		}
		checkNumber(t, what, checkDeadline(t, what, tasks, 50).Code, want)
		checkNumber(t, what+", quanta wrong", checkDeadline(t, what, tasks, -1).Code, max(want, impl.ErrForm))
	}
	none := checkDeadline(t, "no task", nil, 3)
	checkNumbers(t, "no task: Slots", none.Slots, []int64{-1, -1, -1})
	checkNumber(t, "no task: Missed", int64(len(none.Missed)), 0)
	checkAdmit(t, "an empty list", []impl.RtTask{}, true)
}

// checkTaskField puts a number into a field of each of three tasks, which ask for little.
func checkTaskField(t *testing.T, name string, bounds map[int64]bool, put func(k *impl.RtTask, n int64)) {
	t.Helper()
	for n, right := range withEnds(bounds) {
		for at := range 3 {
			tasks := slices.Repeat([]impl.RtTask{{Start: 2, Period: 40, Budget: 1}}, 3)
			put(&tasks[at], n)
			what := fmt.Sprintf("%s %d at %d", name, n, at)
			checkNumber(t, what, checkDeadline(t, what, tasks, 130).Code, faultCode(right))
			checkEqual(t, what+": Admit", impl.Admit(tasks), plainAdmit(tasks))
			alone := []impl.RtTask{tasks[at]}
			checkAdmit(t, what+" alone", alone, right)
			checkNumber(t, what+" alone", checkDeadline(t, what, alone, 130).Code, faultCode(right))
		}
	}
}

func TestTasksOfFields(t *testing.T) {
	checkTaskField(t, "Start", map[int64]bool{-1: false, 0: true, 1: true, 99: true, 100: true, 101: false}, func(k *impl.RtTask, n int64) { k.Start = n })
	checkTaskField(t, "Period", map[int64]bool{-1: false, 0: false, 1: true, 2: true, 39: true, 40: true, 41: false}, func(k *impl.RtTask, n int64) { k.Period = n })
	checkTaskField(t, "Budget", map[int64]bool{-1: false, 0: false, 1: true, 2: true, 39: true, 40: true, 41: false}, func(k *impl.RtTask, n int64) { k.Budget = n })
	for period := int64(1); period <= 40; period++ {
		checkTaskField(t, fmt.Sprintf("Period %d, Budget", period), map[int64]bool{-1: false, 0: false, 1: true, period: true, period + 1: false}, func(k *impl.RtTask, n int64) { k.Period, k.Budget = period, n })
	}
	checkTaskField(t, "Budget and Period", map[int64]bool{-1: false, 0: false, 1: true, 40: true, 41: false}, func(k *impl.RtTask, n int64) { k.Period, k.Budget = n, n })
}

func TestRunDeadlineRefusesQuanta(t *testing.T) {
	tasks := rtTasks(2, 1, 4, 2)
	for quanta, right := range withEnds(map[int64]bool{-1: false, 0: true, 1: true, 100: true, 101: true, 999: true, 1000: true, 1001: false}) {
		for what, tasks := range map[string][]impl.RtTask{"none": nil, "some": tasks} {
			got := checkDeadline(t, what, tasks, quanta)
			checkNumber(t, fmt.Sprintf("%d quanta", quanta), got.Code, faultCode(right))
			if right {
				checkNumber(t, "Slots", int64(len(got.Slots)), quanta)
				checkNumber(t, "Missed", int64(len(got.Missed)), int64(len(tasks)))
			}
		}
	}
}

func TestAdmitIsExact(t *testing.T) {
	for _, c := range []struct {
		what  string
		tasks []impl.RtTask
		right bool
	}{
		{"all of it", rtTasks(1, 1), true},
		{"all of it and the least beyond", rtTasks(1, 1, 40, 1), false},
		{"three thirds", rtTasks(3, 1, 3, 1, 3, 1), true},
		{"seven sevenths", rtTasks(7, 1, 7, 1, 7, 1, 7, 1, 7, 1, 7, 1, 7, 1), true},
		{"eight sevenths", rtTasks(7, 1, 7, 1, 7, 1, 7, 1, 7, 1, 7, 1, 7, 1, 7, 1), false},
		{"a half, a third and a sixth", rtTasks(2, 1, 3, 1, 6, 1), true},
		{"a half, a third and a fifth", rtTasks(2, 1, 3, 1, 5, 1), false},
		{"60 of 60", rtTasks(4, 2, 6, 1, 10, 2, 15, 2), true},
		{"61 of 60", rtTasks(4, 1, 6, 1, 10, 2, 15, 6), false},
		{"59 of 60", rtTasks(4, 1, 6, 1, 10, 3, 15, 4), true},
		{"1559 of 1560", rtTasks(39, 38, 40, 1), true},
		{"1561 of 1560", rtTasks(39, 1, 40, 39), false},
		{"40 of 40, eight of them", rtTasks(40, 5, 40, 5, 40, 5, 40, 5, 40, 5, 40, 5, 40, 5, 40, 5), true},
		{"41 of 40, eight of them", rtTasks(40, 5, 40, 5, 40, 5, 40, 5, 40, 5, 40, 5, 40, 5, 40, 6), false},
		{"tenths", rtTasks(10, 1, 10, 2, 10, 3, 10, 4), true},
		{"eight times all", rtTasks(40, 40, 40, 40, 40, 40, 40, 40, 40, 40, 40, 40, 40, 40, 40, 40), false},
	} {
		checkAdmit(t, c.what, c.tasks, c.right)
		late := slices.Clone(c.tasks)
		for at := range late {
			late[at].Start = 100 - int64(at)
		}
		checkAdmit(t, c.what+", whatever Start is", late, c.right)
	}
}

// leastBeyond has a Budget for each of these Periods, of which no two have a divisor, so that the sum is 1 / (their product) above a whole number.
func leastBeyond(periods []int64) []impl.RtTask {
	whole := int64(1)
	for _, period := range periods {
		whole *= period
	}
	var tasks []impl.RtTask
	for _, period := range periods {
		budget := int64(1)
		for whole/period%period*budget%period != 1 {
			budget++
		}
		tasks = append(tasks, impl.RtTask{Period: period, Budget: budget})
	}
	return tasks
}

// The least sum above 1 that some Periods have is refused; so is none that is less.
func TestAdmitIsExactWithManyPeriods(t *testing.T) {
	rng := rand.New(rand.NewSource(1802))
	periods := []int64{40, 39, 37, 31, 29, 23, 19, 17, 11, 7}
	above, below := 0, 0
	for range 3000 {
		rng.Shuffle(len(periods), func(a int, b int) { periods[a], periods[b] = periods[b], periods[a] })
		tasks := leastBeyond(periods[:2+rng.Intn(7)])
		sum := exactShare(tasks)
		whole := new(big.Int).Div(sum.Num(), sum.Denom())
		beyond := new(big.Rat).Sub(sum, new(big.Rat).SetInt(whole))
		checkEqual(t, fmt.Sprintf("%+v: the least beyond", tasks), beyond.Num().Int64(), 1)
		if whole.Int64() == 1 {
			above++
			checkAdmit(t, fmt.Sprintf("%+v", tasks), tasks, false)
			at := rng.Intn(len(tasks))
			tasks[at].Budget--
			if tasks[at].Budget > 0 {
				below++
				checkAdmit(t, fmt.Sprintf("%+v", tasks), tasks, true)
			}
		}
	}
	if above < 100 || below < 100 {
		t.Errorf("%d above and %d below", above, below)
	}
}

func TestDeadlines(t *testing.T) {
	start := func(tasks []impl.RtTask, starts ...int64) []impl.RtTask {
		for at, from := range starts {
			tasks[at].Start = from
		}
		return tasks
	}
	for _, c := range []struct {
		what   string
		tasks  []impl.RtTask
		slots  []int64
		missed []int64
	}{
		{"one with room", rtTasks(3, 1), []int64{0, -1, -1, 0, -1, -1, 0}, []int64{0}},
		{"one without", rtTasks(1, 1), []int64{0, 0, 0}, []int64{0}},
		{"the whole Budget", rtTasks(3, 3), []int64{0, 0, 0, 0, 0, 0}, []int64{0}},
		{"the one that ends first", rtTasks(4, 2, 2, 1), []int64{1, 0, 0, 1, 1, 0, 0, 1}, []int64{0, 0}},
		{"two that end at once", rtTasks(4, 2, 4, 2), []int64{0, 0, 1, 1, 0}, []int64{0, 0}},
		{"two that end at once, the later one began first", start(rtTasks(2, 1, 4, 2), 2, 0), []int64{1, 1, 0, -1, 0, 1, 0, 1}, []int64{0, 0}},
		{"two that end at once, something is left of the later one", start(rtTasks(2, 1, 4, 3), 2, 0), []int64{1, 1, 0, 1}, []int64{0, 0}},
		{"a later Start", start(rtTasks(2, 1), 3), []int64{-1, -1, -1, 0, -1, 0, -1}, []int64{0}},
		{"a Start at the last quantum", start(rtTasks(2, 1), 2), []int64{-1, -1, 0}, []int64{0}},
		{"a Start behind the last quantum", start(rtTasks(2, 1, 5, 5), 3), []int64{1, 1, 1}, []int64{0, 0}},
		{"a miss is told when the next Period begins", rtTasks(2, 2, 2, 1), []int64{0, 0}, []int64{0, 0}},
		{"the first miss", rtTasks(2, 2, 2, 1), []int64{0, 0, 0}, []int64{0, 1}},
		{"misses add up", rtTasks(2, 2, 2, 1), []int64{0, 0, 0, 0, 0, 0, 0}, []int64{0, 3}},
		{"all that is left is one miss", rtTasks(3, 3, 3, 3), []int64{0, 0, 0, 0}, []int64{0, 1}},
		{"what is left is lost, not added", rtTasks(2, 2, 4, 4), []int64{0, 0, 0, 0, 0, 0, 0, 0, 0}, []int64{0, 2}},
		{"both miss", rtTasks(3, 2, 2, 2), []int64{1, 1, 0, 1, 0, 0, 1}, []int64{1, 2}},
		{"one that ends sooner comes between", start(rtTasks(6, 3, 2, 1), 0, 1), []int64{0, 1, 0, 1, 0, 1}, []int64{0, 0}},
	} {
		got := checkDeadline(t, c.what, c.tasks, int64(len(c.slots)))
		checkNumbers(t, c.what+": Slots", got.Slots, c.slots)
		checkNumbers(t, c.what+": Missed", got.Missed, c.missed)
	}
}

func TestDeadlinesOfStarts(t *testing.T) {
	for _, from := range []int64{0, 1, 99, 100} {
		for _, quanta := range []int64{from, from + 1, from + 2, from + 10} {
			tasks := []impl.RtTask{{Start: from, Period: 3, Budget: 2}}
			got := checkDeadline(t, "one", tasks, quanta)
			for now, slot := range got.Slots {
				want := int64(-1)
				if int64(now) >= from && (int64(now)-from)%3 < 2 {
					want = 0
				}
				checkNumber(t, fmt.Sprintf("Start %d, quantum %d", from, now), slot, want)
			}
			checkNumbers(t, "never missed", got.Missed, []int64{0})
		}
	}
}

func randomTask(rng *rand.Rand) impl.RtTask {
	k := impl.RtTask{Start: oneOf(rng, 0, 0, 1, 5, 100, rng.Int63n(101)), Period: oneOf(rng, 1, 2, 3, 4, 6, 39, 40, 1+rng.Int63n(40))}
	k.Budget = oneOf(rng, 1, 1, k.Period, 1+rng.Int63n(k.Period))
	return k
}

func randomTasks(rng *rand.Rand) []impl.RtTask {
	var tasks []impl.RtTask
	for range rng.Intn(9) {
		tasks = append(tasks, randomTask(rng))
	}
	return tasks
}

func TestDeadlinesOfRandomTasks(t *testing.T) {
	rng := rand.New(rand.NewSource(1803))
	taken, missed := 0, 0
	for range 3000 {
		tasks := randomTasks(rng)
		got := checkDeadline(t, "random", tasks, oneOf(rng, 0, 1, 50, 200))
		if len(got.Missed) > 0 && slices.Max(got.Missed) > 0 {
			missed++
		}
		if impl.Admit(tasks) {
			taken++
		}
		checkEqual(t, fmt.Sprintf("Admit %+v", tasks), impl.Admit(tasks), plainAdmit(tasks))
		if t.Failed() {
			return
		}
	}
	if taken < 300 || missed < 300 {
		t.Errorf("%d were taken, %d missed", taken, missed)
	}
}

// admittedTasks ask for more and more, as long as Admit takes them; many come to just 1.
func admittedTasks(rng *rand.Rand) []impl.RtTask {
	var tasks []impl.RtTask
	for range 30 {
		k := randomTask(rng)
		k.Budget = 1 + rng.Int63n(min(k.Period, 6))
		if impl.Admit(append(slices.Clone(tasks), k)) {
			tasks = append(tasks, k)
		}
	}
	for at := range tasks {
		for {
			tasks[at].Budget++
			if !impl.Admit(tasks) {
				tasks[at].Budget--
				break
			}
		}
	}
	return tasks
}

// checkBudgets holds a run to no miss, and to the Budget in each Period that ends within it.
func checkBudgets(t *testing.T, what string, tasks []impl.RtTask, quanta int64) {
	t.Helper()
	run := impl.RunDeadline(tasks, quanta)
	checkNumber(t, what+": Code", run.Code, impl.OK)
	checkNumbers(t, what+": Missed", run.Missed, make([]int64, len(tasks)))
	for n, k := range tasks {
		for begin := k.Start; begin+k.Period <= quanta; begin += k.Period {
			got := int64(0)
			for _, slot := range run.Slots[begin : begin+k.Period] {
				if slot == int64(n) {
					got++
				}
			}
			checkNumber(t, fmt.Sprintf("%s: task %d from %d on", what, n, begin), got, k.Budget)
		}
	}
}

func TestP36AdmittedTasksNeverMiss(t *testing.T) {
	rng := rand.New(rand.NewSource(1804))
	full := 0
	for range 1500 {
		tasks := admittedTasks(rng)
		what := fmt.Sprintf("%+v", tasks)
		checkBudgets(t, what, tasks, oneOf(rng, 150, 400, 1000))
		if exactShare(tasks).Cmp(big.NewRat(1, 1)) == 0 {
			full++
		}
		if t.Failed() {
			return
		}
	}
	if full < 300 {
		t.Errorf("%d came to just 1", full)
	}
}

// All pairs and some threes of small Periods, each Start against each.
func TestP36SmallTasksNeverMiss(t *testing.T) {
	taken := 0
	var all []impl.RtTask
	for period := int64(1); period <= 6; period++ {
		for budget := int64(1); budget <= period; budget++ {
			all = append(all, impl.RtTask{Period: period, Budget: budget})
		}
	}
	for _, a := range all {
		for _, b := range all {
			for from := range int64(7) {
				b.Start = from
				tasks := []impl.RtTask{a, b, {Start: 3, Period: 5, Budget: 1}}
				for count := 1; count <= 3; count++ {
					if plainAdmit(tasks[:count]) {
						taken++
						checkBudgets(t, fmt.Sprintf("%+v", tasks[:count]), tasks[:count], 70)
					}
				}
			}
		}
		if t.Failed() {
			return
		}
	}
	if taken < 1000 {
		t.Errorf("%d were taken", taken)
	}
}

package tests

import (
	"fmt"
	"math/rand"
	"slices"
	"testing"

	"loop.example/g00038/impl"
)

const (
	creditWay = "RunCredit"
	fairWay   = "RunFair"
	gangWay   = "RunGang"
	nobodyRan = -1
)

func schedWays() []string { return []string{creditWay, fairWay, gangWay} }

// schedAsk is all that a scheduler is handed; turn is for RunGang alone.
type schedAsk struct {
	way    string
	l      []impl.Vcpu
	pcpus  int64
	wakes  []impl.WakeOp
	quanta int64
	turn   int64
}

func (a schedAsk) run() impl.SchedRun {
	switch a.way {
	case creditWay:
		return impl.RunCredit(a.l, a.pcpus, a.wakes, a.quanta)
	case fairWay:
		return impl.RunFair(a.l, a.pcpus, a.wakes, a.quanta)
	}
	return impl.RunGang(a.l, a.pcpus, a.wakes, a.quanta, a.turn)
}

func (a schedAsk) String() string {
	if len(a.l)+len(a.wakes) > 40 {
		return fmt.Sprintf("%s of %d on %d, %d wakes, %d quanta, turn %d", a.way, len(a.l), a.pcpus, len(a.wakes), a.quanta, a.turn)
	}
	return fmt.Sprintf("%s of %+v on %d, wakes %+v, %d quanta, turn %d", a.way, a.l, a.pcpus, a.wakes, a.quanta, a.turn)
}

// plainVcpu is what chapter 19 says of one in VcpusFault, said once more.
func plainVcpu(v impl.Vcpu, pcpus int64) bool {
	right := among(v.Guest, 0, 99) && among(v.Weight, 1, 1000) && among(v.Cap, 0, 10) && among(v.Used, 0, 10)
	mask := int64(0)
	for p := range pcpus {
		mask += 1 << p
	}
	right = right && v.Mask != 0 && v.Mask&^mask == 0
	return right && among(v.Credit, -1<<40, 1<<40) && among(v.Ran, 0, 1<<40) && among(v.Stolen, 0, 1<<40)
}

func plainVcpus(l []impl.Vcpu, pcpus int64) bool {
	right := among(pcpus, 1, 8) && len(l) <= 16
	for _, v := range l {
		right = right && plainVcpu(v, pcpus)
	}
	return right
}

func (a schedAsk) plainCode() int64 {
	if len(a.l) > 1000 || len(a.wakes) > 1000 {
		return impl.ErrSize
	}
	right := plainVcpus(a.l, a.pcpus) && among(a.quanta, 0, 100)
	for _, w := range a.wakes {
		right = right && w.At >= 0 && among(w.Vcpu, 0, int64(len(a.l))-1)
	}
	if a.way == gangWay {
		right = right && among(a.turn, 0, 99)
	}
	return faultCode(right)
}

// plainWake is one of wakes, with what RunFair does to who is woken.
func (a schedAsk) plainWake(l []impl.Vcpu, w impl.WakeOp) {
	woken := &l[w.Vcpu]
	if a.way == fairWay && w.Awake && !woken.Awake {
		var times []int64
		for _, v := range l {
			if v.Awake {
				times = append(times, v.Credit)
			}
		}
		slices.Sort(times)
		if len(times) > 0 && times[0] > woken.Credit {
			woken.Credit = times[0]
		}
	}
	woken.Awake = w.Awake
}

// plainAccount is what RunCredit does each tenth quantum.
func plainAccount(l []impl.Vcpu, pcpus int64) {
	all := int64(0)
	for _, v := range l {
		if v.Awake {
			all += v.Weight
		}
	}
	for n := range l {
		l[n].Used = 0
		if !l[n].Awake {
			continue
		}
		l[n].Credit += 1000 * pcpus * l[n].Weight / all
		if l[n].Credit > 1000 {
			l[n].Credit = 1000
		}
	}
}

func (a schedAsk) mayRun(v impl.Vcpu, pcpu int64) bool {
	has := v.Awake && (v.Mask/(1<<pcpu))%2 == 1
	return has && (a.way == fairWay || v.Cap == 0 || v.Used < v.Cap)
}

// plainPicks sorts all that may be picked, for each real processor anew.
func (a schedAsk) plainPicks(l []impl.Vcpu) []int64 {
	var picks []int64
	for pcpu := range a.pcpus {
		var ready []int64
		for n, v := range l {
			if a.mayRun(v, pcpu) && !slices.Contains(picks, int64(n)) {
				ready = append(ready, int64(n))
			}
		}
		slices.SortStableFunc(ready, func(x int64, y int64) int {
			if a.way == creditWay {
				return int(l[y].Credit - l[x].Credit)
			}
			return int(l[x].Credit - l[y].Credit)
		})
		picks = append(picks, append(ready, nobodyRan)[0])
	}
	return picks
}

// plainGangs sorts the numbers of guests by how far they are from turn on.
func plainGangs(l []impl.Vcpu, pcpus int64, turn int64) (picks []int64, next int64) {
	gangs := map[int64][]int64{}
	for n, v := range l {
		if v.Awake {
			gangs[v.Guest] = append(gangs[v.Guest], int64(n))
		}
	}
	var guests []int64
	for guest := range gangs {
		guests = append(guests, guest)
	}
	far := func(guest int64) int64 {
		if guest < turn {
			return guest + 100 - turn
		}
		return guest - turn
	}
	slices.SortFunc(guests, func(x int64, y int64) int { return int(far(x) - far(y)) })
	picks, next = slices.Repeat([]int64{nobodyRan}, int(pcpus)), turn
	used := 0
	for _, guest := range guests {
		gang := gangs[guest]
		if len(gang) > int(pcpus)-used {
			continue
		}
		if used == 0 {
			next = guest + 1
		}
		used += copy(picks[used:], gang)
	}
	if next == 100 {
		next = 0
	}
	return picks, next
}

func (a schedAsk) plainCharge(v *impl.Vcpu) {
	switch a.way {
	case creditWay:
		v.Used++
		v.Credit -= 100
		if v.Credit < -1000 {
			v.Credit = -1000
		}
	case fairWay:
		v.Credit += 1000000 / v.Weight
	}
}

func (a schedAsk) plainCounts(l []impl.Vcpu, picks []int64) {
	for n := range l {
		switch {
		case slices.Contains(picks, int64(n)):
			l[n].Ran++
			a.plainCharge(&l[n])
		case l[n].Awake:
			l[n].Stolen++
		}
	}
}

// plainRun is chapter 19's first three, said once more, one after another.
func (a schedAsk) plainRun() impl.SchedRun {
	code := a.plainCode()
	if code != impl.OK {
		return impl.SchedRun{Code: code}
	}
	run := impl.SchedRun{Vcpus: slices.Clone(a.l)}
	if a.way == gangWay {
		run.Turn = a.turn
	}
	for quantum := range a.quanta {
		for _, w := range a.wakes {
			if w.At == quantum {
				a.plainWake(run.Vcpus, w)
			}
		}
		if a.way == creditWay && quantum%10 == 0 {
			plainAccount(run.Vcpus, a.pcpus)
		}
		var picks []int64
		if a.way == gangWay {
			picks, run.Turn = plainGangs(run.Vcpus, a.pcpus, run.Turn)
		} else {
			picks = a.plainPicks(run.Vcpus)
		}
		a.plainCounts(run.Vcpus, picks)
		run.Picks = append(run.Picks, picks...)
	}
	return run
}

func checkVcpus(t *testing.T, what string, got []impl.Vcpu, want []impl.Vcpu) {
	t.Helper()
	if !slices.Equal(got, want) {
		t.Errorf("%s: got %+v\nwant %+v", what, got, want)
	}
}

func checkSchedRun(t *testing.T, what string, got impl.SchedRun, want impl.SchedRun) {
	t.Helper()
	checkNumbers(t, what+": Code, Turn", []int64{got.Code, got.Turn}, []int64{want.Code, want.Turn})
	checkNumbers(t, what+": Picks", got.Picks, want.Picks)
	checkVcpus(t, what+": Vcpus", got.Vcpus, want.Vcpus)
}

// checkSched holds a call to the plain one, to leaving what it was handed as it was, and to answering with new memory.
func checkSched(t *testing.T, what string, a schedAsk) impl.SchedRun {
	t.Helper()
	what = what + ": " + a.String()
	l, wakes := slices.Clone(a.l), slices.Clone(a.wakes)
	got := a.run()
	checkSchedRun(t, what, got, a.plainRun())
	checkVcpus(t, what+": what was handed in", a.l, l)
	checkEqual(t, what+": wakes that were handed in", slices.Equal(a.wakes, wakes), true)
	for n := range got.Vcpus {
		was := got.Vcpus[n]
		got.Vcpus[n].Ran = -7
		checkEqual(t, what+": new memory", a.l[n], l[n])
		got.Vcpus[n] = was
	}
	return got
}

// plainTask is what chapter 19 says of a task, said once more.
func plainTask(k impl.RtTask) bool {
	return among(k.Start, 0, 100) && among(k.Period, 1, 40) && among(k.Budget, 1, k.Period)
}

func plainTasks(tasks []impl.RtTask) bool {
	right := len(tasks) <= 8
	for _, k := range tasks {
		right = right && plainTask(k)
	}
	return right
}

// plainDeadline looks for each quantum at what each task got since its Period began.
func plainDeadline(tasks []impl.RtTask, quanta int64) impl.RtRun {
	if len(tasks) > 1000 {
		return impl.RtRun{Code: impl.ErrSize}
	}
	if !plainTasks(tasks) || !among(quanta, 0, 1000) {
		return impl.RtRun{Code: impl.ErrForm}
	}
	run := impl.RtRun{Missed: make([]int64, len(tasks))}
	got := func(n int, from int64, to int64) int64 {
		count := int64(0)
		for _, slot := range run.Slots[from:to] {
			if slot == int64(n) {
				count++
			}
		}
		return count
	}
	for now := range quanta {
		slot, end := int64(nobodyRan), int64(0)
		for n, k := range tasks {
			if now < k.Start {
				continue
			}
			begin := now - (now-k.Start)%k.Period
			if now == begin && now > k.Start && got(n, begin-k.Period, begin) < k.Budget {
				run.Missed[n]++
			}
			if got(n, begin, now) < k.Budget && (slot == nobodyRan || begin+k.Period < end) {
				slot, end = int64(n), begin+k.Period
			}
		}
		run.Slots = append(run.Slots, slot)
	}
	return run
}

func checkDeadline(t *testing.T, what string, tasks []impl.RtTask, quanta int64) impl.RtRun {
	t.Helper()
	if len(tasks) <= 20 {
		what = fmt.Sprintf("%s: RunDeadline of %+v, %d", what, tasks, quanta)
	}
	before := slices.Clone(tasks)
	got, want := impl.RunDeadline(tasks, quanta), plainDeadline(tasks, quanta)
	checkNumber(t, what+": Code", got.Code, want.Code)
	checkNumbers(t, what+": Slots", got.Slots, want.Slots)
	checkNumbers(t, what+": Missed", got.Missed, want.Missed)
	checkEqual(t, what+": what was handed in", slices.Equal(tasks, before), true)
	return got
}

func randomVcpu(rng *rand.Rand, pcpus int64) impl.Vcpu {
	top := int64(1<<pcpus - 1)
	v := impl.Vcpu{
		Guest:  oneOf(rng, 0, 1, 2, 3, 98, 99, rng.Int63n(100)),
		Weight: oneOf(rng, 1, 2, 3, 7, 10, 100, 256, 999, 1000, 1+rng.Int63n(1000)),
		Cap:    oneOf(rng, 0, 0, 0, 1, 2, 5, 9, 10),
		Mask:   oneOf(rng, top, top, 1, 1<<(pcpus-1), 1+rng.Int63n(top)),
		Awake:  rng.Intn(4) > 0,
		Credit: oneOf(rng, 0, 0, 0, 100, -100, 999, 1000, 1001, -900, -950, -1000, -1001, rng.Int63n(4000)-2000, rng.Int63n(2000000), 1<<40, -1<<40),
		Used:   rng.Int63n(11),
		Ran:    oneOf(rng, 0, 0, 5, 1<<40),
		Stolen: oneOf(rng, 0, 0, 5, 1<<40),
	}
	return v
}

// randomAsk has now and then no virtual processor, and wakes that are not in order of their At.
func randomAsk(rng *rand.Rand, way string) schedAsk {
	a := schedAsk{way: way, pcpus: 1 + rng.Int63n(8), quanta: oneOf(rng, 0, 1, 9, 10, 11, 12, 21, 30, 40, 100), turn: oneOf(rng, 0, 1, 2, 50, 98, 99, rng.Int63n(100))}
	for range rng.Intn(17) {
		a.l = append(a.l, randomVcpu(rng, a.pcpus))
	}
	if len(a.l) == 0 {
		return a
	}
	for range rng.Intn(40) {
		at := oneOf(rng, 0, 1, 9, 10, 11, rng.Int63n(30), rng.Int63n(110))
		a.wakes = append(a.wakes, impl.WakeOp{At: at, Vcpu: rng.Int63n(int64(len(a.l))), Awake: rng.Intn(3) > 0})
	}
	return a
}

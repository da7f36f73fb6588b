package tests

import (
	"bytes"
	"fmt"
	"math/rand"
	"slices"
	"strings"
	"testing"

	"loop.example/g00038/impl"
)

// machineHead is where the ports of a packed machine begin.
const machineHead = 220

// quickMix is what mixOf is, for long texts.
func quickMix(data string, seed uint64) int64 {
	sum := seed%2147483629 + 1
	for _, b := range []byte(data) {
		sum = (sum*65599 + uint64(b) + 1) % 2147483629
	}
	return int64((sum*40503 + 77) % 2147483629)
}

func withMachineSum(text string) string { return text + fourBytes(quickMix(text, 61)) }

// resummed is a packed machine whose last word is the right one again.
func resummed(text string) string { return withMachineSum(text[:len(text)-4]) }

// putAt puts a piece over what stands there.
func putAt(text string, at int, piece string) string { return text[:at] + piece + text[at+len(piece):] }

// plainSet has the numbers below count of which this is so.
func plainSet(count int, isSo func(number int64) bool) string {
	set := make([]byte, (count+7)/8)
	for number := range int64(count) {
		if isSo(number) {
			set[number>>3] += 1 << (number & 7)
		}
	}
	return string(set)
}

func isAllZero(text string) bool { return strings.Trim(text, "\x00") == "" }

// plainMachineText is the text of a machine ahead of its sum, whatever is wrong with it but the length of Mem.
func plainMachineText(m impl.Machine) string {
	frames := len(m.Mem) / 256
	numbers := []int64{int64(frames), int64(len(m.Ins)), int64(len(m.Outs)), m.Pc, m.Mode, m.State, m.Count & 0xffffffff, m.Count >> 32, m.Lines, m.Trace}
	var text bytes.Buffer
	text.WriteString("VM1\n" + fourBytesEach(slices.Concat(numbers, m.Regs, m.Ctl, m.Vec)))
	for _, v := range slices.Concat(m.Ins, m.Outs) {
		text.WriteString(fourBytes(v.Port) + fourBytes(v.Value))
	}
	isTold := func(number int64) bool { return !isAllZero(frameIn(m.Mem, number)) }
	text.WriteString(plainSet(frames, isTold))
	for number := range int64(frames) {
		if isTold(number) {
			text.WriteString(frameIn(m.Mem, number))
		}
	}
	return text.String()
}

func plainPackMachine(m impl.Machine) string {
	if impl.MachineFault(m) != impl.OK {
		return ""
	}
	text := withMachineSum(plainMachineText(m))
	if len(text) > 65536 {
		return ""
	}
	return text
}

// plainMachineAt reads the machine of a text that has all of its parts, from their places.
func plainMachineAt(text string, ins int, outs int, frames int) impl.Machine {
	words := func(at int, count int) (list []int64) {
		for n := range count {
			list = append(list, wordAt(text, int64(at+4*n)))
		}
		return list
	}
	ports := func(at int, count int) (list []impl.PortValue) {
		for n := range count {
			list = append(list, impl.PortValue{Port: wordAt(text, int64(at+8*n)), Value: wordAt(text, int64(at+8*n+4))})
		}
		return list
	}
	head := words(16, 7)
	m := impl.Machine{Pc: head[0], Mode: head[1], State: head[2], Count: head[3] | head[4]<<32, Lines: head[5], Trace: head[6]}
	m.Regs, m.Ctl, m.Vec = words(44, 16), words(108, 12), words(156, 16)
	m.Ins, m.Outs = ports(machineHead, ins), ports(machineHead+8*ins, outs)
	set := machineHead + 8*(ins+outs)
	at := set + (frames+7)/8
	var mem bytes.Buffer
	for number := range frames {
		if bitIn(text[set:], int64(number)) {
			mem.WriteString(text[at : at+256])
			at += 256
		} else {
			mem.WriteString(emptyMemory(1))
		}
	}
	m.Mem = mem.String()
	return m
}

// plainUnpackMachine finds out where all parts of a text have to stand before it reads them.
func plainUnpackMachine(text string) impl.Restored {
	refused := func(code int64, at int) impl.Restored { return impl.Restored{Code: code, At: int64(at)} }
	switch {
	case len(text) > 65536:
		return refused(impl.ErrSize, 0)
	case !strings.HasPrefix(text, "VM1\n"):
		return refused(impl.ErrSyntax, 0)
	}
	var numbers [3]int
	for n, most := range []int64{256, 100, 100} {
		at := 4 + 4*n
		if len(text) < at+4 {
			return refused(impl.ErrSyntax, len(text))
		}
		number := wordAt(text, int64(at))
		if number > most || n == 0 && number == 0 {
			return refused(impl.ErrSyntax, at)
		}
		numbers[n] = int(number)
	}
	frames, ins, outs := numbers[0], numbers[1], numbers[2]
	set := machineHead + 8*(ins+outs)
	sum := set + (frames+7)/8
	if len(text) < sum {
		return refused(impl.ErrSyntax, len(text))
	}
	for number := range frames {
		if bitIn(text[set:], int64(number)) {
			sum += 256
		}
	}
	switch {
	case len(text) < sum+4:
		return refused(impl.ErrSyntax, len(text))
	case len(text) > sum+4:
		return refused(impl.ErrSyntax, sum+4)
	case wordAt(text, int64(sum)) != quickMix(text[:sum], 61):
		return refused(impl.ErrSum, sum)
	}
	m := plainMachineAt(text, ins, outs, frames)
	if impl.MachineFault(m) != impl.OK || plainMachineText(m) != text[:sum] {
		return refused(impl.ErrForm, 0)
	}
	return impl.Restored{Machine: m}
}

// plainDelta takes right machines with as many frames.
func plainDelta(a impl.Machine, b impl.Machine) string {
	frames := len(a.Mem) / 256
	differs := func(number int64) bool { return frameIn(a.Mem, number) != frameIn(b.Mem, number) }
	head := "VD1\n" + fourBytes(quickMix(a.Mem, 62)) + plainSet(frames, differs)
	mem := ""
	for number := range int64(frames) {
		if differs(number) {
			mem += frameIn(b.Mem, number)
		} else {
			mem += emptyMemory(1)
		}
	}
	b.Mem = mem
	packed := plainPackMachine(b)
	if packed == "" || len(head+packed) > 65536 {
		return ""
	}
	return head + packed
}

func plainApply(a impl.Machine, text string) impl.Restored {
	frames := len(a.Mem) / 256
	begin := 8 + (frames+7)/8
	switch {
	case len(text) > 65536:
		return impl.Restored{Code: impl.ErrSize}
	case impl.MachineFault(a) != impl.OK:
		return impl.Restored{Code: impl.ErrForm}
	case !strings.HasPrefix(text, "VD1\n") || len(text) < begin:
		return impl.Restored{Code: impl.ErrSyntax}
	}
	b := plainUnpackMachine(text[begin:])
	switch {
	case b.Code != impl.OK:
		return b
	case wordAt(text, 4) != quickMix(a.Mem, 62) || len(b.Machine.Mem) != len(a.Mem):
		return impl.Restored{Code: impl.ErrConflict, At: 4}
	}
	mem := ""
	for number := range int64(8 * (begin - 8)) {
		switch in := bitIn(text[8:begin], number); {
		case number >= int64(frames) && !in:
		case number >= int64(frames) || !in && !isAllZero(frameIn(b.Machine.Mem, number)):
			return impl.Restored{Code: impl.ErrForm, At: 8}
		case in:
			mem += frameIn(b.Machine.Mem, number)
		default:
			mem += frameIn(a.Mem, number)
		}
	}
	b.Machine.Mem = mem
	return b
}

func plainEventsFault(list []impl.Event) int64 {
	right := len(list) <= 200
	for n, e := range list {
		isLine := e.Kind == impl.EvLine && among(e.Num, 0, 6) && e.Value == 0
		isIn := e.Kind == impl.EvIn && among(e.Num, 0, 2047) && isPlainWord(e.Value)
		right = right && (isLine || isIn) && among(e.At, 0, endCount) && (n == 0 || list[n-1].At <= e.At)
	}
	return faultCode(right)
}

func plainEventsText(list []impl.Event) string {
	text := "VE1\n"
	for _, e := range list {
		text += fourBytesEach([]int64{e.At & 0xffffffff, e.At >> 32, e.Kind<<16 + e.Num, e.Value})
	}
	return text
}

// plainCourse is a machine behind each of its steps, the first one being as it was handed in, and all that it told.
type plainCourse struct {
	code   int64
	states []impl.Machine
	told   []impl.Told
}

func plainHappen(m impl.Machine, events []impl.Event) impl.Machine {
	for _, e := range events {
		switch {
		case e.At != m.Count:
		case e.Kind == impl.EvLine:
			m = impl.RaiseLine(m, e.Num)
		case len(m.Ins) < 100:
			m.Ins = append(slices.Clone(m.Ins), impl.PortValue{Port: e.Num, Value: e.Value})
		}
	}
	return m
}

// plainEvents looks through all events ahead of each step.
func plainEvents(m impl.Machine, events []impl.Event, steps int64) plainCourse {
	switch {
	case len(events) > 1000:
		return plainCourse{code: impl.ErrSize}
	case impl.MachineFault(m) != impl.OK || !among(steps, 0, 20000) || plainEventsFault(events) != impl.OK:
		return plainCourse{code: impl.ErrForm}
	}
	c := plainCourse{states: []impl.Machine{m}}
	for range steps {
		if m.State == impl.StateHalt {
			break
		}
		if m.Count == endCount {
			return plainCourse{code: impl.ErrLimit}
		}
		step := plainStep(plainHappen(m, events))
		m = step.Machine
		c.states = append(c.states, m)
		if i := impl.Decode(step.Word).Instr; i.Op == impl.OpOut && step.Cause == 0 {
			c.told = append(c.told, impl.Told{At: m.Count, Port: i.Imm, Value: m.Regs[i.A]})
		}
	}
	return c
}

func (c plainCourse) run() impl.EventRun {
	if c.code != impl.OK {
		return impl.EventRun{Code: c.code}
	}
	return impl.EventRun{Machine: c.states[len(c.states)-1], Steps: int64(len(c.states) - 1), Told: c.told}
}

// framesBetween counts the frames that differ at two steps.
func (c plainCourse) framesBetween(one int64, other int64) (count int64) {
	for number := range int64(len(c.states[0].Mem) / 256) {
		if frameIn(c.states[one].Mem, number) != frameIn(c.states[other].Mem, number) {
			count++
		}
	}
	return count
}

// pair tells what a second machine would have seen of this course.
func (c plainCourse) pair(every int64, failAt int64) impl.PairRun {
	switch {
	case c.code != impl.OK:
		return impl.PairRun{Code: c.code}
	case !among(every, 1, 1000) || failAt < 0:
		return impl.PairRun{Code: impl.ErrForm}
	}
	run := c.run()
	pair := impl.PairRun{Machine: run.Machine, Told: run.Told, Backup: among(failAt, 1, run.Steps)}
	last := int64(0)
	for step := int64(1); step <= run.Steps; step++ {
		if pair.Backup && step == failAt {
			pair.Redone = step - last
			break
		}
		if step%every == 0 || step == run.Steps {
			pair.Frames += c.framesBetween(last, step)
			last = step
		}
	}
	return pair
}

func checkRestored(t *testing.T, what string, got impl.Restored, want impl.Restored) {
	t.Helper()
	checkNumbers(t, what+": Code, At", []int64{got.Code, got.At}, []int64{want.Code, want.At})
	checkMachine(t, what, got.Machine, want.Machine)
}

func checkRestoredCode(t *testing.T, what string, got impl.Restored, code int64, at int) {
	t.Helper()
	checkRestored(t, what, got, impl.Restored{Code: code, At: int64(at)})
}

// checkPackMachine holds the text of a machine against the plain one.
func checkPackMachine(t *testing.T, what string, m impl.Machine) string {
	t.Helper()
	before := copyMachine(m)
	got := impl.PackMachine(m)
	checkText(t, what+": the text", got, plainPackMachine(m))
	checkMachine(t, what+": what was handed in", m, before)
	return got
}

// checkUnpackMachine holds what is read of a text against what is plainly read of it.
func checkUnpackMachine(t *testing.T, what string, text string) impl.Restored {
	t.Helper()
	got := impl.UnpackMachine(text)
	checkRestored(t, what, got, plainUnpackMachine(text))
	return got
}

// checkMachineBack is P38's first part: the machine comes back, and the text is that of it.
func checkMachineBack(t *testing.T, what string, m impl.Machine) string {
	t.Helper()
	text := checkPackMachine(t, what, m)
	if text == "" {
		t.Errorf("%s: there is no text", what)
	}
	checkRestored(t, what+": back", checkUnpackMachine(t, what, text), impl.Restored{Machine: m})
	return text
}

func checkDelta(t *testing.T, what string, a impl.Machine, b impl.Machine) string {
	t.Helper()
	olds, news := copyMachine(a), copyMachine(b)
	got := impl.DeltaOf(a, b)
	checkText(t, what+": the delta", got, plainDelta(a, b))
	checkMachine(t, what+": the older one that was handed in", a, olds)
	checkMachine(t, what+": the newer one that was handed in", b, news)
	return got
}

func checkApply(t *testing.T, what string, a impl.Machine, text string) impl.Restored {
	t.Helper()
	before := copyMachine(a)
	got := impl.ApplyDelta(a, text)
	checkRestored(t, what, got, plainApply(a, text))
	checkMachine(t, what+": what was handed in", a, before)
	return got
}

// checkDeltaBack is P39's first part: the delta makes the newer machine of the older one.
func checkDeltaBack(t *testing.T, what string, a impl.Machine, b impl.Machine) string {
	t.Helper()
	text := checkDelta(t, what, a, b)
	if text == "" {
		t.Errorf("%s: there is no delta", what)
	}
	checkRestored(t, what+": applied", checkApply(t, what, a, text), impl.Restored{Machine: b})
	return text
}

func checkEvents(t *testing.T, what string, got []impl.Event, want []impl.Event) {
	t.Helper()
	if !slices.Equal(got, want) {
		t.Errorf("%s: got %v, want %v", what, got, want)
	}
}

func checkToldList(t *testing.T, what string, got []impl.Told, want []impl.Told) {
	t.Helper()
	if !slices.Equal(got, want) {
		t.Errorf("%s: got %d told, want %d; first unlike: %s", what, len(got), len(want), firstToldUnlike(got, want))
	}
}

func firstToldUnlike(got []impl.Told, want []impl.Told) string {
	for n := range min(len(got), len(want)) {
		if got[n] != want[n] {
			return fmt.Sprintf("number %d, got %+v, want %+v", n, got[n], want[n])
		}
	}
	return fmt.Sprintf("number %d", min(len(got), len(want)))
}

func checkEventRun(t *testing.T, what string, got impl.EventRun, want impl.EventRun) {
	t.Helper()
	checkNumbers(t, what+": Code, Steps", []int64{got.Code, got.Steps}, []int64{want.Code, want.Steps})
	checkToldList(t, what, got.Told, want.Told)
	checkMachine(t, what, got.Machine, want.Machine)
}

func checkPairRun(t *testing.T, what string, got impl.PairRun, want impl.PairRun) {
	t.Helper()
	checkNumbers(t, what+": Code, Frames, Redone", []int64{got.Code, got.Frames, got.Redone}, []int64{want.Code, want.Frames, want.Redone})
	if got.Backup != want.Backup {
		t.Errorf("%s: Backup is %t", what, got.Backup)
	}
	checkToldList(t, what, got.Told, want.Told)
	checkMachine(t, what, got.Machine, want.Machine)
}

// checkRunEvents holds a run against the plain one.
func checkRunEvents(t *testing.T, what string, m impl.Machine, events []impl.Event, steps int64) impl.EventRun {
	t.Helper()
	machine, list := copyMachine(m), slices.Clone(events)
	got := impl.RunEvents(m, events, steps)
	checkEventRun(t, what, got, plainEvents(m, events, steps).run())
	checkMachine(t, what+": what was handed in", m, machine)
	checkEvents(t, what+": events that were handed in", events, list)
	return got
}

// checkPairSame is P41: all but what is counted is as it is without a second machine.
func checkPairSame(t *testing.T, what string, m impl.Machine, events []impl.Event, steps int64, every int64, failAt int64) impl.PairRun {
	t.Helper()
	what = fmt.Sprintf("%s, %d steps, every %d, failAt %d", what, steps, every, failAt)
	machine, list := copyMachine(m), slices.Clone(events)
	got := impl.RunPair(m, events, steps, every, failAt)
	alone := impl.RunEvents(m, events, steps)
	checkToldList(t, what, got.Told, alone.Told)
	checkMachine(t, what, got.Machine, alone.Machine)
	checkMachine(t, what+": what was handed in", m, machine)
	checkEvents(t, what+": events that were handed in", events, list)
	return got
}

// checkPair holds a pair against the plain one, too.
func checkPair(t *testing.T, what string, c plainCourse, m impl.Machine, events []impl.Event, steps int64, every int64, failAt int64) impl.PairRun {
	t.Helper()
	got := checkPairSame(t, what, m, events, steps, every, failAt)
	checkPairRun(t, fmt.Sprintf("%s, %d steps, every %d, failAt %d: plainly", what, steps, every, failAt), got, c.pair(every, failAt))
	return got
}

func lineEvent(at int64, line int64) impl.Event {
	return impl.Event{At: at, Kind: impl.EvLine, Num: line}
}

func inEvent(at int64, port int64, value int64) impl.Event {
	return impl.Event{At: at, Kind: impl.EvIn, Num: port, Value: value}
}

// randomEvents come mostly while a machine with this Count does so many steps, several of them at once now and then.
func randomEvents(rng *rand.Rand, count int64, steps int64, most int) []impl.Event {
	var events []impl.Event
	for range rng.Intn(most + 1) {
		at := min(max(count-3+rng.Int63n(steps+6), 0), endCount)
		if rng.Intn(2) == 0 {
			events = append(events, lineEvent(at, rng.Int63n(7)))
		} else {
			events = append(events, inEvent(at, oneOf(rng, 0, 1, 2, 2047), rng.Int63n(1<<32)))
		}
	}
	slices.SortStableFunc(events, func(a impl.Event, b impl.Event) int { return int(a.At - b.At) })
	return events
}

// talkInstr reads and tells at ports most of the time, writes, and waits now and then.
func talkInstr(rng *rand.Rand) impl.Instr {
	reg := func() int64 { return 1 + rng.Int63n(6) }
	switch rng.Intn(12) {
	case 0, 1, 2:
		return impl.Instr{Op: impl.OpIn, A: reg(), Imm: oneOf(rng, 0, 1, 2, 2047)}
	case 3, 4, 5:
		return impl.Instr{Op: impl.OpOut, A: reg(), Imm: oneOf(rng, 0, 5, 2047)}
	case 6:
		return impl.Instr{Op: impl.OpWait}
	case 7:
		return impl.Instr{Op: impl.OpGetC, A: reg(), Imm: oneOf(rng, impl.CtlCount, impl.CtlPending, impl.CtlCause)}
	case 8, 9:
		return impl.Instr{Op: impl.OpStoreB, A: reg(), B: 7 + rng.Int63n(4), Imm: rng.Int63n(256)}
	case 10:
		return impl.Instr{Op: impl.OpSys}
	default:
		return impl.Instr{Op: impl.OpAddI, A: reg(), B: reg(), Imm: rng.Int63n(100)}
	}
}

// talkMachine goes round in its first frame; its handler, in the second one, tells the cause and goes back.
func talkMachine(rng *rand.Rand) impl.Machine {
	frames := 3 + rng.Int63n(8)
	m := impl.NewMachine(emptyMemory(int(frames)))
	last := 4 * (3 + rng.Int63n(30))
	for at := int64(0); at < last; at += 4 {
		m.Mem = withWord(m.Mem, at, wordOfInstr(talkInstr(rng)))
	}
	ends := []impl.Instr{{Op: impl.OpJump, A: 11}, {Op: impl.OpJump, A: 11}, {Op: impl.OpJump, A: 11}, {Op: impl.OpHalt}}
	m.Mem = withWord(m.Mem, last, wordOfInstr(ends[rng.Intn(len(ends))]))
	handler := []impl.Instr{{Op: impl.OpGetC, A: 12, Imm: impl.CtlCause}, {Op: impl.OpOut, A: 12, Imm: 9}, {Op: impl.OpRet}}
	for n, i := range handler {
		m.Mem = withWord(m.Mem, 256+4*int64(n), wordOfInstr(i))
	}
	for n := 7; n < 11; n++ {
		m.Regs[n] = 256 * (2 + rng.Int63n(frames-2))
	}
	m.Ctl[impl.CtlVector], m.Ctl[impl.CtlEnable] = 256, oneOf(rng, 0, 127, 255, rng.Int63n(256))
	m.Ctl[impl.CtlStatus] = oneOf(rng, 0, impl.StatusOn)
	m.Count = oneOf(rng, 0, 0, 5, 1<<32-20, 1<<32-1, endCount-400)
	for range oneOf(rng, 0, 0, 3, 97, 100) {
		m.Ins = append(m.Ins, impl.PortValue{Port: oneOf(rng, 0, 1, 2, 7), Value: rng.Int63n(1 << 32)})
	}
	m.Outs = make([]impl.PortValue, oneOf(rng, 0, 0, 90, 99, 100))
	return m
}

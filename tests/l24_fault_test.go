package tests

import (
	"fmt"
	"math/rand"
	"slices"
	"strings"
	"testing"

	"loop.example/g00038/impl"
)

// worldCase is the sample with one thing changed.
type worldCase struct {
	what   string
	right  bool
	change func(w *impl.World)
}

// checkWorldFault holds all three calls to whether a world is right.
func checkWorldFault(t *testing.T, what string, w impl.World, right bool) {
	t.Helper()
	before := copyWorld(w)
	checkNumber(t, what, impl.WorldFault(w), faultCode(right))
	checkEqual(t, what+": said once more", plainWorldRight(w), right)
	checkWorld(t, what+": what was handed in", w, before)
	got := checkWorldRun(t, what, w, []impl.WorldOp{woRun(1), woCluster(clBeat("n1")), {Kind: 7}})
	checkNumber(t, what+": RunWorld", got.Code, faultCode(right))
	start := checkStart(t, what, w, "busy")
	if !right {
		checkNumber(t, what+": StartGuest", start.Code, impl.ErrForm)
		checkWorld(t, what+": with a code", got.World, impl.World{})
		checkEqual(t, what+": Outs with a code", len(got.Outs), 0)
	}
}

func checkWorldCases(t *testing.T, cases []worldCase) {
	t.Helper()
	base := sampleWorld()
	for _, c := range cases {
		checkWorldFault(t, c.what, changedWorld(base, c.change), c.right)
	}
}

// ofGuest is a case of one guest of the sample.
func ofGuest(what string, right bool, name string, change func(g *impl.WorldGuest)) worldCase {
	return worldCase{name + ": " + what, right, func(w *impl.World) { change(guestIn(w, name)) }}
}

func TestWorldFaultOfNothingAndTheLeast(t *testing.T) {
	checkWorldFault(t, "nothing", impl.World{}, false)
	least := impl.World{Cluster: impl.Cluster{Tenants: []impl.Tenant{{}}, Over: 100}}
	checkWorldFault(t, "the least", least, true)
	least.Images, least.Guests = []impl.Image{}, []impl.WorldGuest{}
	checkWorldFault(t, "empty lists", least, true)
	least.Guests = []impl.WorldGuest{{}}
	checkWorldFault(t, "a guest that is nothing", least, false)
	checkWorldFault(t, "the sample", sampleWorld(), true)
}

func TestWorldFaultOfClustersAndImages(t *testing.T) {
	checkWorldCases(t, []worldCase{
		{"no tenant", false, func(w *impl.World) { w.Cluster.Tenants = nil }},
		{"Over", false, func(w *impl.World) { w.Cluster.Over = 401 }},
		{"a node's Beat", false, func(w *impl.World) { w.Cluster.Nodes[0].Beat = 101 }},
		{"machines that fall", false, func(w *impl.World) { slices.Reverse(w.Cluster.Vms) }},
		{"a machine on no such node", false, func(w *impl.World) { vmIn(w, "alone").Node = "zz" }},
		{"a tenant above its bounds", false, func(w *impl.World) { w.Cluster.Tenants[0].Mem = 3 }},
		{"no cluster", false, func(w *impl.World) { w.Cluster = impl.Cluster{} }},
		{"no images", true, func(w *impl.World) { w.Images = nil }},
		{"no guests", true, func(w *impl.World) { w.Guests = nil }},
		{"no machines and no guests", true, func(w *impl.World) { w.Cluster.Vms, w.Guests = nil, nil }},
		{"no machines, but guests", false, func(w *impl.World) { w.Cluster.Vms = nil }},
		{"an image that is not right", false, func(w *impl.World) { w.Images[0].Table[0] = 1000 }},
		{"an image whose name is none", false, func(w *impl.World) { w.Images[3].Name = "Half" }},
		{"images alike by name", false, func(w *impl.World) { w.Images[3].Name = "hello" }},
		{"an image behind there is not", false, func(w *impl.World) { w.Images[1].Back = "no-such" }},
		{"images that go round", false, func(w *impl.World) { w.Images[2].Back = "front" }},
		{"12 images", true, func(w *impl.World) { w.Images = rowImages(12) }},
		{"13 images", false, func(w *impl.World) { w.Images = rowImages(13) }},
		{"1001 images", false, func(w *impl.World) { w.Images = rowImages(1001) }},
	})
}

func TestWorldFaultOfNamesAndDisks(t *testing.T) {
	cases := []worldCase{
		{"guests that fall", false, func(w *impl.World) { slices.Reverse(w.Guests) }},
		{"two guests the other way round", false, func(w *impl.World) { w.Guests[2], w.Guests[3] = w.Guests[3], w.Guests[2] }},
		{"a guest twice", false, func(w *impl.World) { w.Guests = slices.Insert(w.Guests, 1, w.Guests[1]) }},
		{"guests alike by Name", false, func(w *impl.World) { w.Guests[3].Name, w.Guests[3].Epoch = "late", 3 }},
		ofGuest("a Name of no machine", false, "late", func(g *impl.WorldGuest) { g.Name = "later" }),
		ofGuest("the empty Name", false, "busy", func(g *impl.WorldGuest) { g.Name = "" }),
		ofGuest("a Name that is none", false, "busy", func(g *impl.WorldGuest) { g.Name = "Busy" }),
		ofGuest("a Name that goes on", false, "busy", func(g *impl.WorldGuest) { g.Name = "busy\x00" }),
		ofGuest("the Name of a machine without a guest", true, "late", func(g *impl.WorldGuest) { g.Name, g.Epoch = "idle", 0 }),
		{"all guests but one are gone", true, func(w *impl.World) { w.Guests = w.Guests[4:5] }},
		{"a machine is gone", false, func(w *impl.World) { w.Cluster.Vms = slices.Delete(w.Cluster.Vms, 5, 6) }},
	}
	for name := range diskCodes() {
		cases = append(cases, ofGuest(fmt.Sprintf("Disk %.30q", name), plainName(name), "late", func(g *impl.WorldGuest) { g.Disk = name }))
		cases = append(cases, ofGuest(fmt.Sprintf("Disk %.30q", name), plainName(name), "busy", func(g *impl.WorldGuest) { g.Disk = name }))
	}
	for name, right := range namesOf() {
		cases = append(cases, ofGuest(fmt.Sprintf("Disk %.30q", name), right, "saved", func(g *impl.WorldGuest) { g.Disk = name }))
	}
	checkWorldCases(t, cases)
}

// Epochs of guests that are down and up, where the machine has 5, 0 or the last one.
func TestWorldFaultOfEpochs(t *testing.T) {
	var cases []worldCase
	for _, last := range []int64{5, 0, 1, 1 << 40} {
		for n, right := range withEnds(map[int64]bool{-1: false, last + 1: false, last: true, 0: true, max(last-1, 0): true}) {
			put := func(name string, up bool) func(w *impl.World) {
				return func(w *impl.World) {
					vmIn(w, name).Epoch = last
					guestIn(w, name).Epoch, guestIn(w, name).Up = n, up
				}
			}
			what := fmt.Sprintf("Epoch %d of %d", n, last)
			cases = append(cases, worldCase{what + ", down", right, put("late", false)}, worldCase{what + ", down on no node", right, put("down", false)})
			cases = append(cases, worldCase{what + ", up", n == last, put("busy", true)})
		}
	}
	checkWorldCases(t, cases)
}

func TestWorldFaultOfWhoIsUp(t *testing.T) {
	runs := func(g *impl.WorldGuest) { g.Up, g.Machine = true, machineFrom("loop", 3) }
	checkWorldCases(t, []worldCase{
		{"on a node with this Epoch", true, func(w *impl.World) { runs(guestIn(w, "lost")) }},
		{"on a node with another Epoch", false, func(w *impl.World) { runs(guestIn(w, "late")) }},
		{"on no node", false, func(w *impl.World) { runs(guestIn(w, "down")) }},
		{"its machine's node is gone", false, func(w *impl.World) { vmIn(w, "busy").Node = "" }},
		{"its machine's Epoch is one more", false, func(w *impl.World) { vmIn(w, "busy").Epoch++ }},
		{"its machine is elsewhere", true, func(w *impl.World) { vmIn(w, "busy").Node = "n2" }},
		{"its machine is on a node that is Closed", true, func(w *impl.World) { vmIn(w, "busy").Node = "n4" }},
		{"its machine is on a node that is Fenced", true, func(w *impl.World) { vmIn(w, "busy").Node = "n5" }},
		ofGuest("up without a machine", false, "lost", func(g *impl.WorldGuest) { g.Up = true }),
		ofGuest("down with a machine", false, "busy", func(g *impl.WorldGuest) { g.Up = false }),
		ofGuest("down without one", true, "busy", func(g *impl.WorldGuest) { g.Up, g.Machine = false, impl.Machine{} }),
	})
}

func TestWorldFaultOfMachinesOfWhoIsUp(t *testing.T) {
	sample := func(change func(m *impl.Machine)) func(g *impl.WorldGuest) {
		return func(g *impl.WorldGuest) {
			m := copyMachine(sampleMachine(0))
			m.Mem = m.Mem[:1536]
			change(&m)
			g.Machine = m
		}
	}
	cases := []worldCase{ofGuest("the sample", true, "busy", sample(nothing)), ofGuest("nothing", false, "busy", func(g *impl.WorldGuest) { g.Machine = impl.Machine{} })}
	for _, c := range rightChanges() {
		m := sampleMachine(0)
		m.Mem = m.Mem[:1536]
		c.change(&m)
		cases = append(cases, ofGuest(c.what, len(m.Mem) == 1536, "busy", sample(c.change)))
	}
	for _, c := range wrongChanges() {
		cases = append(cases, ofGuest(c.what, false, "busy", sample(c.change)))
	}
	for frames, right := range map[int]bool{1: false, 5: false, 6: true, 7: false, 8: false, 256: false, 257: false} {
		cases = append(cases, ofGuest(fmt.Sprintf("%d frames", frames), right, "busy", sample(func(m *impl.Machine) { m.Mem = filledMemory(frames) })))
	}
	for _, size := range []int{0, 1535, 1537} {
		cases = append(cases, ofGuest(fmt.Sprintf("%d bytes", size), false, "busy", sample(func(m *impl.Machine) { m.Mem = strings.Repeat("m", size) })))
	}
	checkWorldCases(t, cases)
}

func TestWorldFaultOfMachinesOfWhoIsDown(t *testing.T) {
	changes := []machineChange{
		{"Pc", func(m *impl.Machine) { m.Pc = 4 }}, {"Mode", func(m *impl.Machine) { m.Mode = impl.ModeKernel }}, {"State", func(m *impl.Machine) { m.State = impl.StateHalt }},
		{"Count", func(m *impl.Machine) { m.Count = 1 }}, {"Lines", func(m *impl.Machine) { m.Lines = 1 }}, {"Trace", func(m *impl.Machine) { m.Trace = 1 }},
		{"Count below 0", func(m *impl.Machine) { m.Count = -1 }}, {"Mem", func(m *impl.Machine) { m.Mem = "\x00" }}, {"Mem of six frames", func(m *impl.Machine) { m.Mem = emptyMemory(6) }},
		{"Regs", func(m *impl.Machine) { m.Regs = make([]int64, 16) }}, {"one of Regs", func(m *impl.Machine) { m.Regs = make([]int64, 1) }},
		{"Ctl", func(m *impl.Machine) { m.Ctl = make([]int64, 12) }}, {"Vec", func(m *impl.Machine) { m.Vec = make([]int64, 16) }},
		{"Ins", func(m *impl.Machine) { m.Ins = make([]impl.PortValue, 1) }}, {"Outs", func(m *impl.Machine) { m.Outs = make([]impl.PortValue, 1) }},
		{"one that is new", func(m *impl.Machine) { *m = impl.NewMachine(emptyMemory(6)) }},
	}
	var cases []worldCase
	for _, name := range []string{"down", "late"} {
		for _, c := range changes {
			cases = append(cases, ofGuest(c.what, false, name, func(g *impl.WorldGuest) { c.change(&g.Machine) }))
		}
		cases = append(cases, ofGuest("empty lists", true, name, func(g *impl.WorldGuest) {
			g.Machine = impl.Machine{Regs: []int64{}, Ctl: []int64{}, Vec: []int64{}, Ins: []impl.PortValue{}, Outs: []impl.PortValue{}}
		}))
	}
	checkWorldCases(t, cases)
}

func TestWorldFaultOfSaved(t *testing.T) {
	text := plainPackMachine(machineFrom("loop", 12))
	wrong := machineFrom("loop", 12)
	wrong.Mode = 2
	saved := map[string]bool{
		"": true, text: true, plainPackMachine(machineFrom("hello", 0)): true, text[1:]: false, text[:len(text)-1]: false, text + "\x00": false, "VM1\n": false, "\x00": false,
		otherText(text, len(text)-1, 1): false, otherText(text, 40, 1): false, withMachineSum(plainMachineText(wrong)): false, strings.Repeat("z", 65537): false,
	}
	for frames, right := range map[int]bool{1: false, 5: false, 6: true, 7: false, 200: false} {
		saved[plainPackMachine(impl.NewMachine(emptyMemory(frames)))] = right
	}
	var cases []worldCase
	for text, right := range saved {
		for _, name := range []string{"down", "late", "busy", "saved"} {
			cases = append(cases, ofGuest(fmt.Sprintf("Saved of %d bytes %.50q", len(text), text), right, name, func(g *impl.WorldGuest) { g.Saved = text }))
		}
	}
	// Each byte counts.
	w := sampleWorld()
	for at := range len(text) {
		guestIn(&w, "down").Saved = otherText(text, at, 4)
		checkNumber(t, fmt.Sprintf("byte %d another one", at), impl.WorldFault(w), impl.ErrForm)
	}
	checkWorldCases(t, cases)
}

// What is far too much is refused ahead of what goes through it.
func TestWorldFaultOfFarTooMuch(t *testing.T) {
	many := func(count int) func(w *impl.World) {
		return func(w *impl.World) { w.Guests = make([]impl.WorldGuest, count) }
	}
	checkWorldCases(t, []worldCase{{"30 guests that are nothing", false, many(30)}, {"10000 guests", false, many(10000)}})
	full := impl.World{Cluster: impl.Cluster{Tenants: []impl.Tenant{{Cpu: 30, Mem: 30}}, Over: 100}}
	for n := range 31 {
		name := fmt.Sprintf("g%02d", n)
		full.Cluster.Vms = append(full.Cluster.Vms, impl.Vm{Name: name, Cpu: 1, Mem: 1})
		full.Guests = append(full.Guests, impl.WorldGuest{Name: name, Disk: "d"})
	}
	checkWorldFault(t, "31 machines with guests", full, false)
	full.Cluster.Vms = full.Cluster.Vms[:30]
	checkWorldFault(t, "31 guests", full, false)
	full.Guests = full.Guests[:30]
	checkWorldFault(t, "30 guests", full, true)
}

// spoilWorld puts something wrong with a world now and then.
func spoilWorld(rng *rand.Rand, w *impl.World) {
	if len(w.Guests) == 0 {
		return
	}
	g := &w.Guests[rng.Intn(len(w.Guests))]
	switch rng.Intn(12) {
	case 0:
		g.Epoch += oneOf(rng, -1, 1, -2, 2)
	case 1:
		g.Up = !g.Up
	case 2:
		g.Name = w.Guests[rng.Intn(len(w.Guests))].Name
	case 3:
		g.Disk = []string{"", "A", "ok"}[rng.Intn(3)]
	case 4:
		g.Machine.Mem += emptyMemory(1)
	case 5:
		g.Machine.Count = oneOf(rng, -1, 0, 1, 1<<40, 1<<40+1)
	case 6:
		if len(g.Saved) > 0 {
			g.Saved = otherText(g.Saved, rng.Intn(len(g.Saved)), 1)
		}
	case 7:
		vm := &w.Cluster.Vms[rng.Intn(len(w.Cluster.Vms))]
		vm.Epoch = max(0, vm.Epoch+oneOf(rng, -1, 1))
	case 8:
		w.Cluster.Vms[rng.Intn(len(w.Cluster.Vms))].Node = ""
	}
}

func TestWorldFaultOfRandomWorlds(t *testing.T) {
	t.Parallel()
	rng := rand.New(rand.NewSource(2401))
	machines := guestMachines(rng, 40)
	right := 0
	for n := range 3000 {
		w := anyWorld(rng, machines)
		checkNumber(t, fmt.Sprintf("world %d", n), impl.WorldFault(w), impl.OK)
		spoilWorld(rng, &w)
		spoilWorld(rng, &w)
		isRight := plainWorldRight(w)
		checkNumber(t, fmt.Sprintf("world %d, spoilt", n), impl.WorldFault(w), faultCode(isRight))
		if isRight {
			right++
		}
		if t.Failed() {
			return
		}
	}
	if !among(int64(right), 600, 2400) {
		t.Errorf("%d of 3000 were right", right)
	}
}

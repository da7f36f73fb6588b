package tests

import (
	"cmp"
	"fmt"
	"math/rand"
	"reflect"
	"slices"
	"strings"
	"testing"

	"loop.example/g00038/impl"
)

func woBoot(name string, disk string) impl.WorldOp {
	return impl.WorldOp{Kind: impl.WoBoot, Name: name, Disk: disk}
}

func woRun(num int64) impl.WorldOp { return impl.WorldOp{Kind: impl.WoRun, Num: num} }

func woSave(name string) impl.WorldOp { return impl.WorldOp{Kind: impl.WoSave, Name: name} }

func woIn(name string, port int64, value int64) impl.WorldOp {
	return impl.WorldOp{Kind: impl.WoIn, Name: name, Num: port, Value: value}
}

func woCluster(op impl.ClusterOp) impl.WorldOp { return impl.WorldOp{Kind: impl.WoCluster, Op: op} }

// diskImage is an image that reads as disk, a whole number of clusters.
func diskImage(name string, disk string) impl.Image {
	m := impl.Image{Name: name}
	for at := 0; at < len(disk); at += 16 {
		m.Table = append(m.Table, int64(at/16))
		m.Data = append(m.Data, disk[at:at+16])
	}
	return m
}

// loopText goes round without an end, tells how often at port 2, and sums up in its memory what comes at port 5.
const loopText = `again:
 in r1, 5
 eq r1, r6, @told
 load r2, r0, 512
 add r2, r2, r1
 store r2, r0, 512
told:
 addi r6, r0, -1
 addi r3, r3, 1
 out r3, 2
 jump r4, r0, @again
`

func bootOf(text string) string {
	return plainMakeBoot(impl.Assemble(text, 0).Words, 0, 0)
}

// bootImages are disks that boot, one of them from behind another one, and a disk for each code of Boot.
func bootImages() []impl.Image {
	hello := bootOf(plainHello("hi"))
	loop := diskImage("loop", bootOf(loopText))
	front := impl.Image{Name: "front", Back: "loop", Table: slices.Repeat([]int64{-1}, len(loop.Table))}
	return []impl.Image{
		diskImage("hello", hello), front, loop,
		{Name: "half", Table: []int64{-2, -2}},
		{Name: "zeros", Table: []int64{-2, -2, -1, -1}},
		diskImage("spoilt", otherText(hello, 70, 1)),
		diskImage("far", plainMakeBoot([]int64{1}, 1280, 0)),
		diskImage("edge", plainMakeBoot([]int64{1}, 1276, 1276)),
	}
}

// diskCodes are the codes of Boot, by the names of disks, with those that are none.
func diskCodes() map[string]int64 {
	return map[string]int64{
		"hello": impl.OK, "front": impl.OK, "loop": impl.OK, "edge": impl.OK, "half": impl.ErrForm, "zeros": impl.ErrSyntax, "spoilt": impl.ErrSum, "far": impl.ErrSize,
		"no-such": impl.ErrSyntax, "": impl.ErrSyntax, "Not a name": impl.ErrSyntax, strings.Repeat("z", 21): impl.ErrSyntax, strings.Repeat("z", 65537): impl.ErrSyntax,
	}
}

func worldBoard() impl.Board { return impl.Board{Frames: 6, Cpus: 1} }

// plainSteps does steps one by one; with a code none is done.
func plainSteps(m impl.Machine, steps int64) (behind impl.Machine, done int64) {
	behind = m
	for ; done < steps && behind.State != impl.StateHalt; done++ {
		if behind.Count == endCount {
			return m, 0
		}
		behind = plainStep(behind).Machine
	}
	return behind, done
}

// machineFrom is one that was booted from a disk and did some steps.
func machineFrom(disk string, steps int64) impl.Machine {
	booted := plainBoot(plainRow(bootImages(), disk), worldBoard())
	m, _ := plainSteps(booted.Machine, steps)
	return m
}

// sampleWorld has a machine without a guest, guests that run, one that was saved, and some that are down: on no node, of an
// older Epoch, of a disk that does not boot.
func sampleWorld() impl.World {
	c := impl.Cluster{
		Nodes: []impl.Node{
			{Name: "n1", Cpu: 8, Mem: 100, Zone: 1, Beat: 100}, {Name: "n2", Cpu: 8, Mem: 80, Zone: 1, Beat: 90}, {Name: "n3", Cpu: 8, Mem: 60, Zone: 2, Beat: 80},
			{Name: "n4", Cpu: 8, Mem: 90, Zone: 1, Beat: 100, Closed: true}, {Name: "n5", Cpu: 8, Mem: 90, Zone: 1, Fenced: true},
		},
		Vms: []impl.Vm{
			{Name: "alone", Cpu: 1, Mem: 10, Node: "n1", Epoch: 1}, {Name: "busy", Cpu: 1, Mem: 10, Node: "n1", Epoch: 3}, {Name: "down", Cpu: 1, Mem: 10, Zone: 2, Epoch: 2},
			{Name: "idle", Cpu: 1, Mem: 1, Zone: 9}, {Name: "late", Cpu: 1, Mem: 10, Node: "n3", Epoch: 5}, {Name: "lost", Cpu: 1, Mem: 10, Node: "n2", Epoch: 4},
			{Name: "saved", Cpu: 1, Mem: 10, Node: "n2", Epoch: 4}, {Name: "tied", Cpu: 1, Mem: 10, Node: "n5", Epoch: 1},
		},
		Tenants: []impl.Tenant{{Cpu: 100, Mem: 1000}},
		Over:    100,
		Time:    100,
	}
	guests := []impl.WorldGuest{
		{Name: "busy", Disk: "loop", Up: true, Epoch: 3, Machine: machineFrom("loop", 7)},
		{Name: "down", Disk: "no-such", Epoch: 2, Saved: plainPackMachine(machineFrom("loop", 30))},
		{Name: "late", Disk: "hello", Epoch: 3},
		{Name: "lost", Disk: "zeros", Epoch: 4},
		{Name: "saved", Disk: "hello", Up: true, Epoch: 4, Machine: machineFrom("front", 50), Saved: plainPackMachine(machineFrom("front", 20))},
		{Name: "tied", Disk: "hello", Up: true, Epoch: 1, Machine: machineFrom("hello", 2)},
	}
	return impl.World{Cluster: c, Images: bootImages(), Guests: guests}
}

func copyWorld(w impl.World) impl.World {
	w.Cluster, w.Images, w.Guests = copyCluster(w.Cluster), slices.Clone(w.Images), slices.Clone(w.Guests)
	for at := range w.Images {
		w.Images[at] = copyImage(w.Images[at])
	}
	for at := range w.Guests {
		w.Guests[at].Machine = copyMachine(w.Guests[at].Machine)
	}
	return w
}

func changedWorld(w impl.World, change func(w *impl.World)) impl.World {
	w = copyWorld(w)
	change(&w)
	return w
}

// worldGuest answers nothing but the name's own, so that a test that asks for another one fails.
func worldGuest(w impl.World, name string) impl.WorldGuest {
	for _, g := range w.Guests {
		if g.Name == name {
			return g
		}
	}
	return impl.WorldGuest{}
}

// guestIn is where a world keeps its guest of that name.
func guestIn(w *impl.World, name string) *impl.WorldGuest {
	at := slices.IndexFunc(w.Guests, func(g impl.WorldGuest) bool { return g.Name == name })
	return &w.Guests[at]
}

func vmIn(w *impl.World, name string) *impl.Vm {
	at := slices.IndexFunc(w.Cluster.Vms, func(v impl.Vm) bool { return v.Name == name })
	return &w.Cluster.Vms[at]
}

// plainNoMachine takes an empty list and none as alike.
func plainNoMachine(m impl.Machine) bool {
	for _, list := range []*[]int64{&m.Regs, &m.Ctl, &m.Vec} {
		*list = append([]int64(nil), *list...)
	}
	for _, list := range []*[]impl.PortValue{&m.Ins, &m.Outs} {
		*list = append([]impl.PortValue(nil), *list...)
	}
	return reflect.DeepEqual(m, impl.Machine{})
}

func plainWorldGuestRight(g impl.WorldGuest, v impl.Vm) bool {
	right := v.Name == g.Name && plainName(g.Name) && plainName(g.Disk) && among(g.Epoch, 0, v.Epoch)
	if g.Up {
		right = right && v.Node != "" && v.Epoch == g.Epoch && impl.MachineFault(g.Machine) == impl.OK && len(g.Machine.Mem) == 1536
	} else {
		right = right && plainNoMachine(g.Machine)
	}
	if right && g.Saved != "" {
		read := plainUnpackMachine(g.Saved)
		right = read.Code == impl.OK && len(read.Machine.Mem) == 1536
	}
	return right
}

// plainWorldRight is what chapter 25 says of WorldFault, said once more.
func plainWorldRight(w impl.World) bool {
	right := plainClusterRight(w.Cluster) && plainChainRight(w.Images)
	ahead := ""
	for _, g := range w.Guests {
		right = right && g.Name > ahead && plainWorldGuestRight(g, vmOf(w.Cluster, g.Name))
		ahead = g.Name
	}
	return right
}

// plainWorld is chapter 25's ops, said once more, with guests by name and steps one by one.
type plainWorld struct {
	plainHost
	images []impl.Image
	guests map[string]impl.WorldGuest
}

func (p *plainWorld) boot(name string, disk string) impl.WorldOut {
	v := p.vm(name)
	if v == nil {
		return impl.WorldOut{Code: impl.ErrNone}
	}
	if v.Node == "" || p.guests[name].Up {
		return impl.WorldOut{Code: impl.ErrState}
	}
	booted := plainBoot(plainRow(p.images, disk), worldBoard())
	if booted.Code == impl.OK {
		p.guests[name] = impl.WorldGuest{Name: name, Disk: disk, Up: true, Epoch: v.Epoch, Machine: booted.Machine}
	}
	return impl.WorldOut{Code: booted.Code}
}

func (p *plainWorld) run(num int64) impl.WorldOut {
	var out impl.WorldOut
	for name, g := range p.guests {
		done := int64(0)
		if g.Up {
			g.Machine, done = plainSteps(g.Machine, num)
		}
		p.guests[name] = g
		out.Num += done
	}
	return out
}

// refusals are all codes against an op at one guest, in their order.
func (p *plainWorld) refusals(op impl.WorldOp) []int64 {
	g, found := p.guests[op.Name]
	var codes []int64
	if !found {
		codes = append(codes, impl.ErrNone)
	}
	if !g.Up {
		codes = append(codes, impl.ErrState)
	}
	if op.Kind == impl.WoIn && (!among(op.Num, 0, 2047) || !isPlainWord(op.Value)) {
		codes = append(codes, impl.ErrForm)
	}
	if op.Kind == impl.WoIn && len(g.Machine.Ins) >= 100 {
		codes = append(codes, impl.ErrCount)
	}
	return codes
}

func (p *plainWorld) atGuest(op impl.WorldOp) impl.WorldOut {
	codes := p.refusals(op)
	if len(codes) > 0 {
		return impl.WorldOut{Code: codes[0]}
	}
	g := p.guests[op.Name]
	if op.Kind == impl.WoSave {
		g.Saved = plainPackMachine(g.Machine)
	} else {
		g.Machine.Ins = append(slices.Clone(g.Machine.Ins), impl.PortValue{Port: op.Num, Value: op.Value})
	}
	p.guests[op.Name] = g
	return impl.WorldOut{}
}

func plainBegin(images []impl.Image, g impl.WorldGuest) impl.Booted {
	if g.Saved != "" {
		return impl.Booted{Machine: plainUnpackMachine(g.Saved).Machine}
	}
	return plainBoot(plainRow(images, g.Disk), worldBoard())
}

func (p *plainWorld) cluster(op impl.ClusterOp) impl.WorldOut {
	out := p.plainHost.do(op)
	for name, g := range p.guests {
		v := p.vm(name)
		if v == nil {
			delete(p.guests, name)
			continue
		}
		if v.Node == "" {
			g.Up, g.Machine = false, impl.Machine{}
		} else if v.Epoch != g.Epoch {
			start := plainBegin(p.images, g)
			g.Up, g.Machine, g.Epoch = start.Code == impl.OK, start.Machine, v.Epoch
		}
		p.guests[name] = g
	}
	return impl.WorldOut{Code: out.Code, Node: out.Node, Vms: out.Vms}
}

func (p *plainWorld) do(op impl.WorldOp) impl.WorldOut {
	switch op.Kind {
	case 1:
		return p.boot(op.Name, op.Disk)
	case 2:
		if among(op.Num, 0, 1000) {
			return p.run(op.Num)
		}
	case 3, 4:
		return p.atGuest(op)
	case 5:
		return p.cluster(op.Op)
	}
	return impl.WorldOut{Code: impl.ErrForm}
}

func plainWorldRun(w impl.World, ops []impl.WorldOp) impl.WorldRun {
	if len(ops) > 1000 {
		return impl.WorldRun{Code: impl.ErrSize}
	}
	if !plainWorldRight(w) {
		return impl.WorldRun{Code: impl.ErrForm}
	}
	p := &plainWorld{plainHost: plainHost{copyCluster(w.Cluster)}, images: w.Images, guests: map[string]impl.WorldGuest{}}
	for _, g := range w.Guests {
		p.guests[g.Name] = g
	}
	var outs []impl.WorldOut
	for _, op := range ops {
		outs = append(outs, p.do(op))
	}
	world := impl.World{Cluster: p.Cluster, Images: w.Images}
	for _, g := range p.guests {
		world.Guests = append(world.Guests, g)
	}
	slices.SortFunc(world.Guests, func(a impl.WorldGuest, b impl.WorldGuest) int { return cmp.Compare(a.Name, b.Name) })
	return impl.WorldRun{World: world, Outs: outs}
}

func checkGuests(t *testing.T, what string, got []impl.WorldGuest, want []impl.WorldGuest) {
	t.Helper()
	if len(got) != len(want) {
		t.Errorf("%s: got %d guests, want %d", what, len(got), len(want))
		return
	}
	for at, g := range got {
		who := fmt.Sprintf("%s: guest %d %q", what, at, want[at].Name)
		checkNames(t, who+": Name, Disk", []string{g.Name, g.Disk}, []string{want[at].Name, want[at].Disk})
		checkEqual(t, who+": Up", g.Up, want[at].Up)
		checkNumber(t, who+": Epoch", g.Epoch, want[at].Epoch)
		checkMachine(t, who, g.Machine, want[at].Machine)
		checkMemory(t, who+": Saved", g.Saved, want[at].Saved)
	}
}

func checkWorld(t *testing.T, what string, got impl.World, want impl.World) {
	t.Helper()
	checkCluster(t, what+": the cluster", got.Cluster, want.Cluster)
	if chainText(got.Images) != chainText(want.Images) {
		t.Errorf("%s: the images are others: %.2000s", what, chainText(got.Images))
	}
	checkGuests(t, what, got.Guests, want.Guests)
}

func checkWorldOuts(t *testing.T, what string, got []impl.WorldOut, want []impl.WorldOut) {
	t.Helper()
	same := func(a impl.WorldOut, b impl.WorldOut) bool {
		return a.Code == b.Code && a.Num == b.Num && a.Node == b.Node && slices.Equal(a.Vms, b.Vms)
	}
	if !slices.EqualFunc(got, want, same) {
		t.Errorf("%s: got %.3000s\nwant %.3000s", what, fmt.Sprintf("%+v", got), fmt.Sprintf("%+v", want))
	}
}

// checkWorldRun holds a run to the plain one, and what was handed in to what it was.
func checkWorldRun(t *testing.T, what string, w impl.World, ops []impl.WorldOp) impl.WorldRun {
	t.Helper()
	before, asked := copyWorld(w), slices.Clone(ops)
	want := plainWorldRun(w, ops)
	got := impl.RunWorld(w, ops)
	checkNumber(t, what+": Code", got.Code, want.Code)
	checkWorldOuts(t, what, got.Outs, want.Outs)
	checkWorld(t, what, got.World, want.World)
	checkWorld(t, what+": what was handed in", w, before)
	if !slices.Equal(ops, asked) {
		t.Errorf("%s: the ops are others behind the run", what)
	}
	return got
}

// checkWorldOps holds a run's answers to what is told here, and answers the world behind it.
func checkWorldOps(t *testing.T, what string, w impl.World, ops []impl.WorldOp, outs ...impl.WorldOut) impl.World {
	t.Helper()
	got := checkWorldRun(t, what, w, ops)
	checkNumber(t, what+": Code", got.Code, impl.OK)
	checkWorldOuts(t, what, got.Outs, outs)
	checkNumber(t, what+": WorldFault behind it", impl.WorldFault(got.World), impl.OK)
	return got.World
}

// checkRefusedWorldOp holds one op to a code, and to a world that stays as it was.
func checkRefusedWorldOp(t *testing.T, what string, w impl.World, op impl.WorldOp, code int64) {
	t.Helper()
	behind := checkWorldOps(t, what, w, []impl.WorldOp{op}, impl.WorldOut{Code: code})
	checkWorld(t, what+": behind what was refused", behind, w)
}

// checkStart holds StartGuest to the plain one, and what was handed in to what it was.
func checkStart(t *testing.T, what string, w impl.World, name string) impl.Booted {
	t.Helper()
	before := copyWorld(w)
	got := impl.StartGuest(w, name)
	var want impl.Booted
	switch g := worldGuest(w, name); {
	case len(name) > 65536:
		want.Code = impl.ErrSize
	case !plainWorldRight(w):
		want.Code = impl.ErrForm
	case name == "" || g.Name != name:
		want.Code = impl.ErrNone
	default:
		want = plainBegin(w.Images, g)
	}
	checkBooted(t, what+": StartGuest", got, want)
	checkWorld(t, what+": what was handed in", w, before)
	return got
}

// guestMachines are right machines of six frames, some of which stop, wait, or come to the end of Count.
func guestMachines(rng *rand.Rand, count int) []impl.Machine {
	var list []impl.Machine
	for n := range count {
		m := talkMachine(rng)
		switch n % 4 {
		case 1:
			m = blockMachine(rng)
		case 2:
			m = machineFrom([]string{"loop", "hello", "edge"}[rng.Intn(3)], rng.Int63n(30))
		}
		m.Mem = (m.Mem + emptyMemory(6))[:1536]
		if rng.Intn(12) == 0 {
			m.Count = endCount - rng.Int63n(12)
		}
		list = append(list, m)
	}
	return list
}

// anyWorld is right; its guests have the machines that are handed in, or those with their frames cut.
func anyWorld(rng *rand.Rand, machines []impl.Machine) impl.World {
	w := impl.World{Cluster: anyCluster(rng), Images: bootImages()}
	for len(w.Cluster.Vms) < 6 && rng.Intn(20) > 0 {
		w.Cluster = anyCluster(rng)
	}
	rng.Shuffle(len(w.Images), func(a int, b int) { w.Images[a], w.Images[b] = w.Images[b], w.Images[a] })
	for at := range w.Cluster.Vms {
		v := &w.Cluster.Vms[at]
		if rng.Intn(4) == 0 {
			continue
		}
		g := impl.WorldGuest{Name: v.Name, Disk: randomDisk(rng), Epoch: v.Epoch}
		if v.Node != "" && rng.Intn(4) > 0 {
			g.Up, g.Machine = true, copyMachine(machines[rng.Intn(len(machines))])
		} else {
			g.Epoch = min(v.Epoch, oneOf(rng, v.Epoch, 0, 1, max(0, v.Epoch-1)))
		}
		if rng.Intn(3) == 0 {
			g.Saved = plainPackMachine(machines[rng.Intn(len(machines))])
		}
		w.Guests = append(w.Guests, g)
	}
	return w
}

func randomDisk(rng *rand.Rand) string {
	return []string{"hello", "loop", "front", "loop", "front", "edge", "half", "zeros", "spoilt", "far", "no-such"}[rng.Intn(11)]
}

// randomLeaseOp is one by which guests fall and are begun anew more often than not.
func randomLeaseOp(rng *rand.Rand, c impl.Cluster) impl.ClusterOp {
	switch rng.Intn(5) {
	case 0:
		return clTick(c.Time + oneOf(rng, 0, 1, 5, 11, 20))
	case 1:
		return clBeat(randomNodeName(rng, c))
	case 2:
		return clReady(randomNodeName(rng, c))
	}
	return randomClusterOp(rng, c)
}

// mayBoot are the machines on a node without a guest that is up.
func mayBoot(w impl.World) []string {
	var names []string
	for _, v := range w.Cluster.Vms {
		if v.Node != "" && !worldGuest(w, v.Name).Up {
			names = append(names, v.Name)
		}
	}
	return names
}

func randomWorldOp(rng *rand.Rand, w impl.World) impl.WorldOp {
	op := impl.WorldOp{Kind: oneOf(rng, 1, 1, 2, 2, 2, 3, 3, 4, 4, 5, 5, 5, 5, 5), Name: randomVmName(rng), Disk: randomDisk(rng), Value: rng.Int63n(1 << 32), Op: randomLeaseOp(rng, w.Cluster)}
	if len(w.Cluster.Vms) > 0 && rng.Intn(6) > 0 {
		op.Name = w.Cluster.Vms[rng.Intn(len(w.Cluster.Vms))].Name
	}
	if may := mayBoot(w); op.Kind == impl.WoBoot && len(may) > 0 && rng.Intn(2) == 0 {
		op.Name = may[rng.Intn(len(may))]
	}
	op.Num = oneOf(rng, 0, 1, 2, 5, 9, 20)
	if op.Kind == impl.WoIn {
		op.Num = oneOf(rng, 0, 1, 5, 2047, 2048)
	}
	if rng.Intn(10) == 0 {
		fields := []*int64{&op.Kind, &op.Num, &op.Value}
		*fields[rng.Intn(3)] = oneOf(rng, -1, 0, 6, 1001, 2047, 2048, 1<<32-1, 1<<32, -1<<63, 1<<63-1)
	}
	return op
}

// memoryOf tells all lists in something that was answered or handed in, as far as their room goes.
func memoryOf(v reflect.Value) [][2]uintptr {
	var spans [][2]uintptr
	switch v.Kind() {
	case reflect.Struct:
		for n := range v.NumField() {
			spans = append(spans, memoryOf(v.Field(n))...)
		}
	case reflect.Slice:
		size := v.Type().Elem().Size() * uintptr(v.Cap())
		if size > 0 {
			spans = append(spans, [2]uintptr{v.Pointer(), v.Pointer() + size})
		}
		for n := range v.Len() {
			spans = append(spans, memoryOf(v.Index(n))...)
		}
	}
	return spans
}

// checkNewMemory holds that no two lists of an answer share memory, and none does with what was handed in.
func checkNewMemory(t *testing.T, what string, answer any, given ...any) {
	t.Helper()
	mine := memoryOf(reflect.ValueOf(answer))
	var others [][2]uintptr
	for _, one := range given {
		others = append(others, memoryOf(reflect.ValueOf(one))...)
	}
	for at, span := range mine {
		for _, other := range append(slices.Clone(mine[at+1:]), others...) {
			if span[0] < other[1] && other[0] < span[1] {
				t.Errorf("%s: lists share memory", what)
				return
			}
		}
	}
}

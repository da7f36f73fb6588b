package tests

import (
	"fmt"
	"math/rand"
	"slices"
	"strings"
	"testing"

	"loop.example/g00038/impl"
)

const everybody = 1<<48 - 1

func swSend(port int64, f impl.Frame) impl.SwOp {
	return impl.SwOp{Kind: impl.SwSend, Port: port, Frame: f}
}

func swTick(time int64) impl.SwOp { return impl.SwOp{Kind: impl.SwTick, Time: time} }

func swUp(port int64) impl.SwOp { return impl.SwOp{Kind: impl.SwUp, Port: port} }

func swDown(port int64) impl.SwOp { return impl.SwOp{Kind: impl.SwDown, Port: port} }

func netFrame(net int64, src int64, dst int64, text string) impl.Frame {
	return impl.Frame{Src: src, Dst: dst, Net: net, Text: text}
}

func plainPort(net int64) impl.SwPort {
	return impl.SwPort{Net: net, Up: true, Rate: 3, Burst: 5000, Level: 4000}
}

func sharedPort(nets ...int64) impl.SwPort {
	return impl.SwPort{Nets: nets, Up: true, Rate: 2, Burst: 5000, Level: 5000}
}

// sampleSwitch has entries to other ports, to one that is down (4), and to one that is not in their net (3).
func sampleSwitch() impl.Switch {
	w := impl.Switch{
		Ports: []impl.SwPort{plainPort(5), plainPort(5), sharedPort(5, 6), plainPort(6), plainPort(5), sharedPort(6, 7), sharedPort(4, 5, 9), plainPort(5)},
		Table: []impl.SwEntry{
			{Net: 5, Addr: 1, Port: 0, Seen: 95},
			{Net: 5, Addr: 2, Port: 2, Seen: 100},
			{Net: 6, Addr: 1, Port: 3, Seen: 92},
			{Net: 5, Addr: 44, Port: 4, Seen: 96},
			{Net: 5, Addr: 66, Port: 3, Seen: 97},
			{Net: 6, Addr: 8, Port: 5, Seen: 90},
		},
		Time: 100,
		Age:  10,
	}
	w.Ports[4].Up = false
	w.Ports[6].Owner, w.Ports[7].Owner = 77, 88
	return w
}

func copySwitch(w impl.Switch) impl.Switch {
	w.Ports, w.Table = slices.Clone(w.Ports), slices.Clone(w.Table)
	for at := range w.Ports {
		w.Ports[at].Nets = slices.Clone(w.Ports[at].Nets)
	}
	return w
}

func changedSwitch(w impl.Switch, change func(w *impl.Switch)) impl.Switch {
	w = copySwitch(w)
	change(&w)
	return w
}

func samePort(a impl.SwPort, b impl.SwPort) bool {
	rest := func(p impl.SwPort) string {
		p.Nets = nil
		return fmt.Sprintf("%+v", p)
	}
	return slices.Equal(a.Nets, b.Nets) && rest(a) == rest(b)
}

// sameSwitch takes an empty list and none as alike.
func sameSwitch(a impl.Switch, b impl.Switch) bool {
	if a.Time != b.Time || a.Age != b.Age || !slices.Equal(a.Table, b.Table) {
		return false
	}
	return slices.EqualFunc(a.Ports, b.Ports, samePort)
}

func checkSwitch(t *testing.T, what string, got impl.Switch, want impl.Switch) {
	t.Helper()
	if !sameSwitch(got, want) {
		t.Errorf("%s: got %+v\nwant %+v", what, got, want)
	}
}

func swOutsText(outs []impl.SwOut) string {
	text := ""
	for n, out := range outs {
		text += fmt.Sprintf("\n  %d: code %d", n, out.Code)
		for _, d := range out.Deliveries {
			text += fmt.Sprintf(", at %d from %d to %d in %d %.40q", d.Port, d.Frame.Src, d.Frame.Dst, d.Frame.Net, d.Frame.Text)
		}
	}
	return text
}

func checkSwOuts(t *testing.T, what string, got []impl.SwOut, want []impl.SwOut) {
	t.Helper()
	same := func(a impl.SwOut, b impl.SwOut) bool {
		return a.Code == b.Code && slices.Equal(a.Deliveries, b.Deliveries)
	}
	if !slices.EqualFunc(got, want, same) {
		t.Errorf("%s: got %s\nwant %s", what, swOutsText(got), swOutsText(want))
	}
}

// plainFrameRight is what chapter 17 says of FrameFault, said once more.
func plainFrameRight(f impl.Frame) bool {
	return among(f.Src, 0, everybody-1) && among(f.Dst, 0, everybody) && among(f.Net, 0, 4095) && len(f.Text) <= 1500
}

func plainPortRight(p impl.SwPort) bool {
	right := among(p.Owner, 0, everybody-1) && among(p.Rate, 0, 1000000) && among(p.Burst, 0, 1000000) && among(p.Level, 0, p.Burst)
	if p.Net != 0 {
		return right && among(p.Net, 1, 4095) && len(p.Nets) == 0
	}
	ahead := int64(0)
	for _, net := range p.Nets {
		right = right && among(net, ahead+1, 4095)
		ahead = net
	}
	return right && among(int64(len(p.Nets)), 1, 20)
}

// plainSwitchRight is what chapter 17 says of SwitchFault, said once more.
func plainSwitchRight(w impl.Switch) bool {
	right := among(int64(len(w.Ports)), 1, 16) && len(w.Table) <= 16 && among(w.Time, 0, 1<<40) && among(w.Age, 1, 1000000)
	for _, p := range w.Ports {
		right = right && plainPortRight(p)
	}
	seen := map[[2]int64]int{}
	for _, e := range w.Table {
		seen[[2]int64{e.Net, e.Addr}]++
		right = right && among(e.Net, 1, 4095) && among(e.Addr, 0, everybody-1) && among(e.Port, 0, int64(len(w.Ports))-1) && among(e.Seen, 0, w.Time)
	}
	return right && len(seen) == len(w.Table)
}

// plainSwitch is a switch that knows each port's nets as one list, whether the port is plain or shared.
type plainSwitch struct {
	impl.Switch
	nets [][]int64
}

func newPlainSwitch(w impl.Switch) *plainSwitch {
	p := &plainSwitch{Switch: copySwitch(w)}
	for _, port := range w.Ports {
		nets := port.Nets
		if len(nets) == 0 {
			nets = []int64{port.Net}
		}
		p.nets = append(p.nets, nets)
	}
	return p
}

func (p *plainSwitch) keep(stays func(e impl.SwEntry) bool) {
	var table []impl.SwEntry
	for _, e := range p.Table {
		if stays(e) {
			table = append(table, e)
		}
	}
	p.Table = table
}

func (p *plainSwitch) has(port int64) bool { return among(port, 0, int64(len(p.Ports))-1) }

func (p *plainSwitch) tick(time int64) int64 {
	if !among(time, p.Time, 1<<40) {
		return impl.ErrForm
	}
	for at, port := range p.Ports {
		p.Ports[at].Level = min(port.Burst, port.Level+(time-p.Time)*port.Rate)
	}
	p.Time = time
	p.keep(func(e impl.SwEntry) bool { return e.Seen+p.Age >= time })
	return impl.OK
}

func (p *plainSwitch) turn(number int64, up bool) int64 {
	switch {
	case !p.has(number):
		return impl.ErrNone
	case p.Ports[number].Up == up:
		return impl.ErrState
	}
	p.Ports[number].Up = up
	p.keep(func(e impl.SwEntry) bool { return p.Ports[e.Port].Up || e.Port != number })
	return impl.OK
}

// refusals are what chapter 17 says of SwSend at a port that there is, in its order.
func (p *plainSwitch) refusals(number int64, f impl.Frame) []refusal {
	port := p.Ports[number]
	isPlain := port.Net != 0
	return []refusal{
		{!port.Up, impl.ErrState},
		{!plainFrameRight(f), impl.ErrForm},
		{isPlain && f.Net != 0, impl.ErrRight},
		{!isPlain && !slices.Contains(p.nets[number], f.Net), impl.ErrRight},
		{port.Owner != 0 && port.Owner != f.Src, impl.ErrRight},
		{port.Level < int64(len(f.Text))+14, impl.ErrLimit},
	}
}

func (p *plainSwitch) learn(learnt impl.SwEntry) {
	for at, e := range p.Table {
		if e.Net == learnt.Net && e.Addr == learnt.Addr {
			p.Table[at] = learnt
			return
		}
	}
	if len(p.Table) == 16 {
		oldest := 0
		for at, e := range p.Table {
			if e.Seen < p.Table[oldest].Seen {
				oldest = at
			}
		}
		p.Table = append(p.Table[:oldest:oldest], p.Table[oldest+1:]...)
	}
	p.Table = append(p.Table, learnt)
}

// leads tells whether a frame to dst goes to that port, as far as Table says.
func (p *plainSwitch) leads(net int64, dst int64, number int64) bool {
	for _, e := range p.Table {
		if e.Net == net && e.Addr == dst {
			return e.Port == number
		}
	}
	return true
}

func (p *plainSwitch) send(from int64, f impl.Frame) impl.SwOut {
	if !p.has(from) {
		return impl.SwOut{Code: impl.ErrNone}
	}
	for _, r := range p.refusals(from, f) {
		if r.holds {
			return impl.SwOut{Code: r.code}
		}
	}
	p.Ports[from].Level -= int64(len(f.Text)) + 14
	net := f.Net
	if p.Ports[from].Net != 0 {
		net = p.Ports[from].Net
	}
	p.learn(impl.SwEntry{Net: net, Addr: f.Src, Port: from, Seen: p.Time})
	var out impl.SwOut
	for at, port := range p.Ports {
		number := int64(at)
		if number == from || !port.Up || !slices.Contains(p.nets[at], net) || !p.leads(net, f.Dst, number) {
			continue
		}
		f.Net = net
		if port.Net != 0 {
			f.Net = 0
		}
		out.Deliveries = append(out.Deliveries, impl.SwDelivery{Port: number, Frame: f})
	}
	return out
}

func (p *plainSwitch) do(op impl.SwOp) impl.SwOut {
	switch op.Kind {
	case 1:
		return p.send(op.Port, op.Frame)
	case 2:
		return impl.SwOut{Code: p.tick(op.Time)}
	case 3:
		return impl.SwOut{Code: p.turn(op.Port, true)}
	case 4:
		return impl.SwOut{Code: p.turn(op.Port, false)}
	}
	return impl.SwOut{Code: impl.ErrForm}
}

func plainSwitchRun(w impl.Switch, ops []impl.SwOp) impl.SwRun {
	if len(ops) > 1000 {
		return impl.SwRun{Code: impl.ErrSize}
	}
	if !plainSwitchRight(w) {
		return impl.SwRun{Code: impl.ErrForm}
	}
	p := newPlainSwitch(w)
	var outs []impl.SwOut
	for _, op := range ops {
		outs = append(outs, p.do(op))
	}
	return impl.SwRun{Switch: p.Switch, Outs: outs}
}

// checkSwRun holds a run to the plain one, and what was handed in to what it was.
func checkSwRun(t *testing.T, what string, w impl.Switch, ops []impl.SwOp) impl.SwRun {
	t.Helper()
	before, asked := copySwitch(w), slices.Clone(ops)
	want := plainSwitchRun(w, ops)
	got := impl.RunSwitch(w, ops)
	checkNumber(t, what+": Code", got.Code, want.Code)
	checkSwOuts(t, what, got.Outs, want.Outs)
	checkSwitch(t, what+": the switch", got.Switch, want.Switch)
	checkSwitch(t, what+": what was handed in", w, before)
	if !slices.Equal(ops, asked) {
		t.Errorf("%s: the ops are others behind the run", what)
	}
	return got
}

// checkSwOps holds a run's answers to what is told here, and answers the switch behind it.
func checkSwOps(t *testing.T, what string, w impl.Switch, ops []impl.SwOp, outs ...impl.SwOut) impl.Switch {
	t.Helper()
	got := checkSwRun(t, what, w, ops)
	checkNumber(t, what+": Code", got.Code, impl.OK)
	checkSwOuts(t, what, got.Outs, outs)
	checkNumber(t, what+": SwitchFault behind it", impl.SwitchFault(got.Switch), impl.OK)
	return got.Switch
}

func swCodes(codes ...int64) []impl.SwOut {
	var outs []impl.SwOut
	for _, code := range codes {
		outs = append(outs, impl.SwOut{Code: code})
	}
	return outs
}

// reach is what a frame that came to those ports tells: places holds the Net that it has at each.
func reach(f impl.Frame, places map[int64]int64) impl.SwOut {
	var out impl.SwOut
	for port := range int64(16) {
		net, comes := places[port]
		if comes {
			f.Net = net
			out.Deliveries = append(out.Deliveries, impl.SwDelivery{Port: port, Frame: f})
		}
	}
	return out
}

// swRandomNets are 1 to 4 of the few networks in which random ports are.
func swRandomNets(rng *rand.Rand) []int64 {
	nets := []int64{1, 2, 3, 4095}
	rng.Shuffle(len(nets), func(a int, b int) { nets[a], nets[b] = nets[b], nets[a] })
	nets = nets[:1+rng.Intn(4)]
	slices.Sort(nets)
	return nets
}

func swRandomAddr(rng *rand.Rand) int64 {
	return oneOf(rng, 0, 1, 2, 3, 4, 5, everybody-1, rng.Int63n(24))
}

func swRandomPort(rng *rand.Rand) impl.SwPort {
	burst := oneOf(rng, 0, 14, 60, 3000, 1000000)
	p := impl.SwPort{Up: rng.Intn(4) > 0, Rate: oneOf(rng, 0, 1, 7, 1000000), Burst: burst, Level: rng.Int63n(burst + 1)}
	if rng.Intn(5) == 0 {
		p.Owner = swRandomAddr(rng)
	}
	nets := swRandomNets(rng)
	if rng.Intn(2) == 0 {
		p.Nets = nets
	} else {
		p.Net = nets[0]
	}
	return p
}

func swRandom(rng *rand.Rand) impl.Switch {
	w := impl.Switch{Time: oneOf(rng, 0, 20, 1000, 1<<40-5), Age: oneOf(rng, 1, 5, 30, 1000000)}
	for range 1 + rng.Intn(16) {
		w.Ports = append(w.Ports, swRandomPort(rng))
	}
	known := map[[2]int64]int{}
	for range rng.Intn(25) {
		e := impl.SwEntry{Net: swRandomNets(rng)[0], Addr: swRandomAddr(rng), Port: rng.Int63n(int64(len(w.Ports)))}
		known[[2]int64{e.Net, e.Addr}]++
		if len(w.Table) < 16 && known[[2]int64{e.Net, e.Addr}] == 1 {
			e.Seen = max(0, w.Time-rng.Int63n(8))
			w.Table = append(w.Table, e)
		}
	}
	return w
}

// swRandomFrame is mostly one that may come from that port.
func swRandomFrame(rng *rand.Rand, w impl.Switch, port int64) impl.Frame {
	f := impl.Frame{Src: swRandomAddr(rng), Dst: swRandomAddr(rng), Text: strings.Repeat("t", int(oneOf(rng, 0, 0, 1, 2, 40, 1500)))}
	if among(port, 0, int64(len(w.Ports))-1) {
		from := w.Ports[port]
		if len(from.Nets) > 0 {
			f.Net = oneOf(rng, from.Nets...)
		}
		if from.Owner != 0 && rng.Intn(4) > 0 {
			f.Src = from.Owner
		}
	}
	switch rng.Intn(40) {
	case 0:
		f.Net = oneOf(rng, 0, 1, 2, 7, 4095, 4096)
	case 1:
		f.Src = oneOf(rng, -1, everybody)
	case 2:
		f.Dst = oneOf(rng, -1, everybody+1)
	case 3:
		f.Text = strings.Repeat("t", 1501)
	case 4, 5, 6, 7, 8:
		f.Dst = everybody
	}
	return f
}

func swRandomOp(rng *rand.Rand, w impl.Switch, time *int64) impl.SwOp {
	port := rng.Int63n(int64(len(w.Ports)))
	if rng.Intn(40) == 0 {
		port = oneOf(rng, -1, int64(len(w.Ports)), 1<<62)
	}
	switch rng.Intn(14) {
	case 0:
		*time = min(*time+oneOf(rng, 0, 0, 1, 2, 5), 1<<40)
		return swTick(*time + oneOf(rng, 0, 0, 0, 0, 0, -1, 1<<40))
	case 1:
		return swUp(port)
	case 2:
		if rng.Intn(2) == 0 {
			return swDown(port)
		}
		return impl.SwOp{Kind: oneOf(rng, 0, 5, -1, 1<<62), Port: port, Time: *time}
	}
	return swSend(port, swRandomFrame(rng, w, port))
}

func swRandomOps(rng *rand.Rand, w impl.Switch, count int) []impl.SwOp {
	var ops []impl.SwOp
	time := w.Time
	for range count {
		ops = append(ops, swRandomOp(rng, w, &time))
	}
	return ops
}

// sixBytes is the number's lowest six bytes, as the library tells eight.
func sixBytes(n int64) string { return (fourBytes(n) + fourBytes(n>>32))[:6] }

func twoBytes(n int64) string { return fourBytes(n)[:2] }

// plainWrapHead is what stands ahead of Text, with a length that may be another one than Text's.
func plainWrapHead(f impl.Frame, key int64, from int64, to int64, length int) string {
	return "NV" + fourBytes(key)[:3] + fourBytes(from) + fourBytes(to) + sixBytes(f.Src) + sixBytes(f.Dst) + twoBytes(f.Net) + twoBytes(int64(length))
}

func withWrapSum(text string) string { return text + fourBytes(mixOf(text, 51)) }

func plainWrap(f impl.Frame, key int64, from int64, to int64) string {
	if !plainFrameRight(f) || !among(key, 0, 1<<24-1) || !isPlainWord(from) || !isPlainWord(to) {
		return ""
	}
	return withWrapSum(plainWrapHead(f, key, from, to, len(f.Text)) + f.Text)
}

func plainLow(text string) int64 {
	num := int64(0)
	for at := len(text) - 1; at >= 0; at-- {
		num = num*256 + int64(text[at])
	}
	return num
}

// plainUnwrap reads by places that are counted from both ends.
func plainUnwrap(text string) impl.FrameRead {
	size := len(text)
	switch {
	case size > 2000:
		return impl.FrameRead{Code: impl.ErrSize}
	case size < 33, text[:2] != "NV", plainLow(text[27:29]) > 1500, plainLow(text[27:29]) != int64(size-33):
		return impl.FrameRead{Code: impl.ErrSyntax}
	case fourBytes(mixOf(text[:size-4], 51)) != text[size-4:]:
		return impl.FrameRead{Code: impl.ErrSum}
	}
	f := impl.Frame{Src: plainLow(text[13:19]), Dst: plainLow(text[19:25]), Net: plainLow(text[25:27]), Text: text[29 : size-4]}
	if !plainFrameRight(f) {
		return impl.FrameRead{Code: impl.ErrForm}
	}
	return impl.FrameRead{Key: plainLow(text[2:5]), From: plainLow(text[5:9]), To: plainLow(text[9:13]), Frame: f}
}

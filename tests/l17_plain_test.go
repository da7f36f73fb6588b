package tests

import (
	"fmt"
	"math/rand"
	"slices"
	"testing"

	"loop.example/g00038/impl"
)

const (
	gate    = 50
	beyond  = -1
	farAway = 900
	eight   = 8 << 24
)

func tcpPacket(src int64, srcPort int64, dst int64, dstPort int64, flags int64) impl.Packet {
	return impl.Packet{Proto: impl.ProtoTcp, Src: src, SrcPort: srcPort, Dst: dst, DstPort: dstPort, Flags: flags}
}

func udpPacket(src int64, srcPort int64, dst int64, dstPort int64) impl.Packet {
	return impl.Packet{Proto: impl.ProtoUdp, Src: src, SrcPort: srcPort, Dst: dst, DstPort: dstPort}
}

func pingPacket(src int64, srcPort int64, dst int64, dstPort int64) impl.Packet {
	return impl.Packet{Proto: impl.ProtoPing, Src: src, SrcPort: srcPort, Dst: dst, DstPort: dstPort}
}

func filterOp(time int64, from int64, p impl.Packet) impl.FilterOp {
	return impl.FilterOp{Time: time, From: from, Packet: p}
}

func backwards(p impl.Packet, flags int64) impl.Packet {
	return impl.Packet{Proto: p.Proto, Src: p.Dst, SrcPort: p.DstPort, Dst: p.Src, DstPort: p.SrcPort, Flags: flags}
}

// sampleFilter has a host without groups (30), a Forward to it, two Forwards to one port of a host, and one in First..Last.
func sampleFilter() impl.Filter {
	return impl.Filter{
		Hosts: []impl.NetHost{{Addr: 10, Groups: []int64{0, 2}}, {Addr: 20, Groups: []int64{1, 3}}, {Addr: 30}, {Addr: 40, Groups: []int64{0, 1, 2, 3}}},
		Groups: []impl.NetGroup{
			{Rules: []impl.NetRule{{High: 65535, Group: -1}}},
			{Rules: []impl.NetRule{{In: true, Proto: 6, Low: 80, High: 90, Group: -1}, {In: true, Proto: 1, Group: -1}}},
			{Rules: []impl.NetRule{{In: true, High: 65535, Group: 0}}},
			{Rules: []impl.NetRule{{In: true, Proto: 17, Addr: eight, Bits: 8, High: 65535, Group: -1}, {Proto: 6, Addr: farAway, Bits: 32, Low: 25, High: 25, Group: -1}}},
			{},
		},
		Forwards: []impl.Forward{
			{Proto: 6, Port: 80, Addr: 20, ToPort: 85},
			{Proto: 17, Port: 53, Addr: 20, ToPort: 530},
			{Proto: 6, Port: 443, Addr: 30, ToPort: 85},
			{Proto: 1, Port: 7, Addr: 20, ToPort: 9},
			{Proto: 17, Port: 2001, Addr: 40, ToPort: 2001},
			{Proto: 6, Port: 81, Addr: 20, ToPort: 85},
			{Proto: 17, Port: 80, Addr: 20, ToPort: 531},
		},
		Public: gate,
		First:  2000,
		Last:   2003,
		Time:   100,
	}
}

// busyFilter has a connection of each kind: between hosts (0, 3, 6), from a host to outside (1, 5), by a Forward (2, 4).
func busyFilter() impl.Filter {
	f := sampleFilter()
	f.Conns = []impl.Conn{
		{Proto: 6, A: 10, APort: 1000, B: 20, BPort: 80, State: impl.ConnOpen, Seen: 95},
		{Proto: 6, A: 10, APort: 1001, B: farAway, BPort: 80, Outer: 2000, State: impl.ConnOpen, Seen: 90},
		{Proto: 17, A: eight + 1, APort: 7, B: 20, BPort: 530, Outer: 53, State: impl.ConnOpen, Seen: 99},
		{Proto: 1, A: 10, APort: 5, B: 20, BPort: 6, State: impl.ConnOpen, Seen: 100},
		{Proto: 6, A: farAway + 1, APort: 4000, B: 20, BPort: 85, Outer: 80, State: impl.ConnNew, Seen: 97},
		{Proto: 17, A: 40, APort: 1000, B: farAway, BPort: 53, Outer: 2000, State: impl.ConnOpen, Seen: 96},
		{Proto: 6, A: 40, APort: 1000, B: 20, BPort: 80, State: impl.ConnClosing, FinA: true, Seen: 98},
	}
	return f
}

func copyFilter(f impl.Filter) impl.Filter {
	f.Hosts, f.Groups = slices.Clone(f.Hosts), slices.Clone(f.Groups)
	for at := range f.Hosts {
		f.Hosts[at].Groups = slices.Clone(f.Hosts[at].Groups)
	}
	for at := range f.Groups {
		f.Groups[at].Rules = slices.Clone(f.Groups[at].Rules)
	}
	f.Forwards, f.Conns = slices.Clone(f.Forwards), slices.Clone(f.Conns)
	return f
}

func changedFilter(f impl.Filter, change func(f *impl.Filter)) impl.Filter {
	f = copyFilter(f)
	change(&f)
	return f
}

// sameFilter takes an empty list and none as alike.
func sameFilter(a impl.Filter, b impl.Filter) bool {
	if [4]int64{a.Public, a.First, a.Last, a.Time} != [4]int64{b.Public, b.First, b.Last, b.Time} {
		return false
	}
	hosts := slices.EqualFunc(a.Hosts, b.Hosts, func(a impl.NetHost, b impl.NetHost) bool {
		return a.Addr == b.Addr && slices.Equal(a.Groups, b.Groups)
	})
	groups := slices.EqualFunc(a.Groups, b.Groups, func(a impl.NetGroup, b impl.NetGroup) bool { return slices.Equal(a.Rules, b.Rules) })
	return hosts && groups && slices.Equal(a.Forwards, b.Forwards) && slices.Equal(a.Conns, b.Conns)
}

func checkFilter(t *testing.T, what string, got impl.Filter, want impl.Filter) {
	t.Helper()
	if !sameFilter(got, want) {
		t.Errorf("%s: got %+v\nwant %+v", what, got, want)
	}
}

func checkConns(t *testing.T, what string, got []impl.Conn, want []impl.Conn) {
	t.Helper()
	if !slices.Equal(got, want) {
		t.Errorf("%s: got %+v\nwant %+v", what, got, want)
	}
}

func checkVerdicts(t *testing.T, what string, got []impl.Verdict, want []impl.Verdict) {
	t.Helper()
	if len(got) != len(want) {
		t.Errorf("%s: got %d answers, want %d", what, len(got), len(want))
		return
	}
	for at := range got {
		checkEqual(t, fmt.Sprintf("%s: answer %d", what, at), got[at], want[at])
	}
}

func plainProto(n int64) bool { return n == 1 || n == 6 || n == 17 }

func plainWord(n int64) bool { return among(n, 0, 1<<32-1) }

// plainPacketRight is what chapter 18 says of a packet, said once more.
func plainPacketRight(p impl.Packet) bool {
	flags := map[int64]int64{1: 0, 6: 15, 17: 0}
	return plainProto(p.Proto) && plainWord(p.Src) && plainWord(p.Dst) && among(p.SrcPort, 0, 65535) && among(p.DstPort, 0, 65535) && among(p.Flags, 0, flags[p.Proto])
}

func plainRuleRight(f impl.Filter, r impl.NetRule) bool {
	return (r.Proto == 0 || plainProto(r.Proto)) && plainWord(r.Addr) && among(r.Bits, 0, 32) && among(r.Low, 0, 65535) && among(r.High, 0, 65535) && among(r.Group, -1, int64(len(f.Groups))-1)
}

// plainPlace is the number of the host with an address, or -1.
func plainPlace(f impl.Filter, addr int64) int64 {
	for n, h := range f.Hosts {
		if h.Addr == addr {
			return int64(n)
		}
	}
	return -1
}

func plainHostsRight(f impl.Filter) bool {
	right, addrs := len(f.Hosts) <= 12, map[int64]int{f.Public: 1}
	for _, h := range f.Hosts {
		addrs[h.Addr]++
		right = right && among(h.Addr, 1, 1<<32-1) && len(h.Groups) <= 5
		least := int64(0)
		for _, group := range h.Groups {
			right = right && among(group, least, int64(len(f.Groups))-1)
			least = group + 1
		}
	}
	return right && len(addrs) == len(f.Hosts)+1
}

func plainRestRight(f impl.Filter) bool {
	right := among(f.Public, 1, 1<<32-1) && among(f.First, 1024, 65535) && among(f.Last, f.First, 65535) && among(f.Time, 0, 1<<40)
	right = right && len(f.Groups) <= 12 && len(f.Forwards) <= 10
	for _, g := range f.Groups {
		right = right && len(g.Rules) <= 20
		for _, r := range g.Rules {
			right = right && plainRuleRight(f, r)
		}
	}
	forwards := map[[2]int64]int{}
	for _, w := range f.Forwards {
		forwards[[2]int64{w.Proto, w.Port}]++
		right = right && plainProto(w.Proto) && among(w.Port, 1, 65535) && among(w.ToPort, 1, 65535) && plainPlace(f, w.Addr) >= 0
	}
	return right && len(forwards) == len(f.Forwards)
}

func plainConnRight(f impl.Filter, c impl.Conn) bool {
	right := plainProto(c.Proto) && plainWord(c.A) && plainWord(c.B) && among(c.APort, 0, 65535) && among(c.BPort, 0, 65535)
	right = right && among(c.State, 1, 3) && (c.Proto == 6 || c.State == 2) && among(c.Seen, 0, f.Time) && c.A != f.Public && c.B != f.Public
	hosts := 0
	for _, h := range f.Hosts {
		if h.Addr == c.A {
			hosts++
		}
		if h.Addr == c.B {
			hosts++
		}
	}
	switch hosts {
	case 1:
		return right && among(c.Outer, 1, 65535)
	case 2:
		return right && c.Outer == 0
	}
	return false
}

// plainApart tells whether two connections of right filters are told apart by each of their sides.
func plainApart(f impl.Filter, c impl.Conn, d impl.Conn) bool {
	if c.Proto != d.Proto {
		return true
	}
	sides := [4]int64{c.A, c.APort, c.B, c.BPort}
	if sides == [4]int64{d.A, d.APort, d.B, d.BPort} || sides == [4]int64{d.B, d.BPort, d.A, d.APort} {
		return false
	}
	far := func(c impl.Conn) [3]int64 {
		if plainPlace(f, c.A) < 0 {
			return [3]int64{c.A, c.APort, c.Outer}
		}
		return [3]int64{c.B, c.BPort, c.Outer}
	}
	return c.Outer == 0 || far(c) != far(d)
}

// plainFilterRight is what chapter 18 says of FilterFault, said once more.
func plainFilterRight(f impl.Filter) bool {
	right := plainHostsRight(f) && plainRestRight(f) && len(f.Conns) <= 24
	for at, c := range f.Conns {
		right = right && plainConnRight(f, c)
		for _, d := range f.Conns[:at] {
			right = right && plainApart(f, c, d)
		}
	}
	return right
}

// plainLets goes through the bits one by one.
func plainLets(f impl.Filter, r impl.NetRule, p impl.Packet, in bool) bool {
	other := map[bool]int64{true: p.Src, false: p.Dst}[in]
	for bit := range r.Bits {
		if (other>>(31-bit))&1 != (r.Addr>>(31-bit))&1 {
			return false
		}
	}
	if r.Group >= 0 {
		at := plainPlace(f, other)
		if at < 0 || !slices.Contains(f.Hosts[at].Groups, r.Group) {
			return false
		}
	}
	return r.In == in && (r.Proto == 0 || r.Proto == p.Proto) && (p.Proto == 1 || among(p.DstPort, r.Low, r.High))
}

func plainSideLets(f impl.Filter, addr int64, p impl.Packet, in bool) bool {
	at := plainPlace(f, addr)
	if at < 0 {
		return true
	}
	for _, group := range f.Hosts[at].Groups {
		for _, r := range f.Groups[group].Rules {
			if plainLets(f, r, p, in) {
				return true
			}
		}
	}
	return false
}

func plainMayPass(f impl.Filter, p impl.Packet) bool {
	return plainSideLets(f, p.Src, p, false) && plainSideLets(f, p.Dst, p, true)
}

// plainWay is one way of a connection: what is sent, what is told of it, and to whom.
type plainWay struct {
	sent impl.Packet
	told impl.Packet
	to   int64
}

// plainWays are those from A and from B, with no flags.
func plainWays(f impl.Filter, c impl.Conn) [2]plainWay {
	fromA := impl.Packet{Proto: c.Proto, Src: c.A, SrcPort: c.APort, Dst: c.B, DstPort: c.BPort}
	fromB := impl.Packet{Proto: c.Proto, Src: c.B, SrcPort: c.BPort, Dst: c.A, DstPort: c.APort}
	ways := [2]plainWay{{fromA, fromA, plainPlace(f, c.B)}, {fromB, fromB, plainPlace(f, c.A)}}
	switch {
	case ways[0].to < 0:
		ways[0].told.Src, ways[0].told.SrcPort = f.Public, c.Outer
		ways[1].sent.Dst, ways[1].sent.DstPort = f.Public, c.Outer
	case ways[1].to < 0:
		ways[0].sent.Dst, ways[0].sent.DstPort = f.Public, c.Outer
		ways[1].told.Src, ways[1].told.SrcPort = f.Public, c.Outer
	}
	return ways
}

// plainNet is a filter that goes through all of Conns for each packet.
type plainNet struct{ impl.Filter }

func (n *plainNet) keep(stays func(at int, c impl.Conn) bool) {
	var conns []impl.Conn
	for at, c := range n.Conns {
		if stays(at, c) {
			conns = append(conns, c)
		}
	}
	n.Conns = conns
}

func plainStay(c impl.Conn) int64 {
	return map[[2]int64]int64{{6, 1}: 30, {6, 2}: 1000, {6, 3}: 60, {17, 2}: 60, {1, 2}: 30}[[2]int64{c.Proto, c.State}]
}

// owner is the connection that a packet belongs to, and its way.
func (n *plainNet) owner(p impl.Packet) (at int, way int) {
	p.Flags = 0
	for at, c := range n.Conns {
		for way, w := range plainWays(n.Filter, c) {
			if w.sent == p {
				return at, way
			}
		}
	}
	return -1, 0
}

func (n *plainNet) step(at int, way int, flags int64) {
	c := &n.Conns[at]
	syn, ack, fin, reset := flags&1 != 0, flags&2 != 0, flags&4 != 0, flags&8 != 0
	gone := reset || c.FinA && c.FinB && ack && !fin
	if c.State == 1 && way == 1 && syn && ack {
		c.State = 2
	}
	if fin {
		c.State = 3
		*[]*bool{&c.FinA, &c.FinB}[way] = true
	}
	if gone {
		n.keep(func(other int, _ impl.Conn) bool { return other != at })
	}
}

func (n *plainNet) tell(at int, way int, flags int64) impl.Verdict {
	w := plainWays(n.Filter, n.Conns[at])[way]
	w.told.Flags = flags
	n.Conns[at].Seen = n.Time
	if n.Conns[at].Proto == 6 {
		n.step(at, way, flags)
	}
	return impl.Verdict{To: w.to, Packet: w.told}
}

// taken are the ports at Public that a connection or a Forward of a Proto has.
func (n *plainNet) taken(proto int64) map[int64]int {
	taken := map[int64]int{}
	for _, c := range n.Conns {
		if c.Proto == proto {
			taken[c.Outer]++
		}
	}
	for _, w := range n.Forwards {
		if w.Proto == proto {
			taken[w.Port]++
		}
	}
	return taken
}

func (n *plainNet) outerFor(proto int64) int64 {
	taken := n.taken(proto)
	for port := n.First; port <= n.Last; port++ {
		if taken[port] == 0 {
			return port
		}
	}
	return 0
}

func (n *plainNet) begin(from int64, p impl.Packet) impl.Verdict {
	if p.Proto == 6 && p.Flags != 1 {
		return impl.Verdict{Code: impl.ErrState}
	}
	c := impl.Conn{Proto: p.Proto, A: p.Src, APort: p.SrcPort, B: p.Dst, BPort: p.DstPort, State: 2, Seen: n.Time}
	if from < 0 {
		at := slices.IndexFunc(n.Forwards, func(w impl.Forward) bool { return w.Proto == p.Proto && w.Port == p.DstPort })
		if at < 0 {
			return impl.Verdict{Code: impl.ErrNone}
		}
		c.B, c.BPort, c.Outer = n.Forwards[at].Addr, n.Forwards[at].ToPort, p.DstPort
	}
	if p.Proto == 6 {
		c.State = 1
	}
	isOut := from >= 0 && plainPlace(n.Filter, c.B) < 0
	if isOut {
		c.Outer = n.outerFor(p.Proto)
	}
	own := impl.Packet{Proto: c.Proto, Src: c.A, SrcPort: c.APort, Dst: c.B, DstPort: c.BPort, Flags: p.Flags}
	sides := c
	sides.Outer = 0
	between := slices.ContainsFunc(n.Conns, func(d impl.Conn) bool { return !plainApart(n.Filter, sides, d) })
	for _, r := range []refusal{{!plainMayPass(n.Filter, own), impl.ErrRight}, {between, impl.ErrConflict}, {len(n.Conns) == 24, impl.ErrCount}, {isOut && c.Outer == 0, impl.ErrCount}} {
		if r.holds {
			return impl.Verdict{Code: r.code}
		}
	}
	n.Conns = append(n.Conns, c)
	return n.tell(len(n.Conns)-1, 0, p.Flags)
}

// refusals are what chapter 18 says of where a packet comes from, in its order.
func (n *plainNet) refusals(op impl.FilterOp) []refusal {
	p, src := op.Packet, plainPlace(n.Filter, op.Packet.Src)
	return []refusal{
		{op.From >= 0 && src != op.From, impl.ErrRight},
		{op.From < 0 && (src >= 0 || p.Src == n.Public), impl.ErrRight},
		{op.From < 0 && p.Dst != n.Public, impl.ErrRight},
		{op.From >= 0 && p.Dst == n.Public, impl.ErrNone},
	}
}

func (n *plainNet) do(op impl.FilterOp) impl.Verdict {
	if !among(op.Time, n.Time, 1<<40) || !among(op.From, -1, int64(len(n.Hosts))-1) || !plainPacketRight(op.Packet) {
		return impl.Verdict{Code: impl.ErrForm}
	}
	n.Time = op.Time
	n.keep(func(_ int, c impl.Conn) bool { return c.Seen+plainStay(c) >= n.Time })
	for _, r := range n.refusals(op) {
		if r.holds {
			return impl.Verdict{Code: r.code}
		}
	}
	at, way := n.owner(op.Packet)
	if at < 0 {
		return n.begin(op.From, op.Packet)
	}
	return n.tell(at, way, op.Packet.Flags)
}

func plainFilterRun(f impl.Filter, ops []impl.FilterOp) impl.FilterRun {
	if len(ops) > 1000 {
		return impl.FilterRun{Code: impl.ErrSize}
	}
	if !plainFilterRight(f) {
		return impl.FilterRun{Code: impl.ErrForm}
	}
	n := &plainNet{copyFilter(f)}
	var outs []impl.Verdict
	for _, op := range ops {
		outs = append(outs, n.do(op))
	}
	return impl.FilterRun{Filter: n.Filter, Outs: outs}
}

// checkFilterRun holds a run to the plain one, and what was handed in to what it was.
func checkFilterRun(t *testing.T, what string, f impl.Filter, ops []impl.FilterOp) impl.FilterRun {
	t.Helper()
	before, asked := copyFilter(f), slices.Clone(ops)
	want := plainFilterRun(f, ops)
	got := impl.RunFilter(f, ops)
	checkNumber(t, what+": Code", got.Code, want.Code)
	checkVerdicts(t, what, got.Outs, want.Outs)
	checkFilter(t, what+": the filter", got.Filter, want.Filter)
	checkFilter(t, what+": what was handed in", f, before)
	if !slices.Equal(ops, asked) {
		t.Errorf("%s: the ops are others behind the run", what)
	}
	return got
}

// checkFilterOps holds a run's answers to what is told here, and answers the filter behind it.
func checkFilterOps(t *testing.T, what string, f impl.Filter, ops []impl.FilterOp, outs ...impl.Verdict) impl.Filter {
	t.Helper()
	got := checkFilterRun(t, what, f, ops)
	checkNumber(t, what+": Code", got.Code, impl.OK)
	checkVerdicts(t, what, got.Outs, outs)
	checkNumber(t, what+": FilterFault behind it", impl.FilterFault(got.Filter), impl.OK)
	return got.Filter
}

func filterCodes(codes ...int64) []impl.Verdict {
	var outs []impl.Verdict
	for _, code := range codes {
		outs = append(outs, impl.Verdict{Code: code})
	}
	return outs
}

func verdict(to int64, p impl.Packet) impl.Verdict { return impl.Verdict{To: to, Packet: p} }

// randomHostAddrs, randomFarAddrs and randomNetPort are few, so that packets meet.
func randomHostAddrs(rng *rand.Rand) []int64 {
	addrs := []int64{1, 2, 3, 10<<24 + 1, 10<<24 + 2, 10<<24 + 3, 1<<32 - 1, 1 << 31, 77, 78, 79, 80}
	rng.Shuffle(len(addrs), func(a int, b int) { addrs[a], addrs[b] = addrs[b], addrs[a] })
	return addrs[:oneOf(rng, 0, 1, 2, 2, 3, 3, 4, 4, 12)]
}

func randomFarAddr(rng *rand.Rand) int64 {
	return oneOf(rng, 0, 7, 7, eight+1, eight+1, eight+2, 1<<31+5, 1<<32-2)
}

func randomNetPort(rng *rand.Rand) int64 {
	return oneOf(rng, 0, 1, 53, 80, 80, 81, 2000, 2001, 65535)
}

func randomProto(rng *rand.Rand) int64 { return oneOf(rng, 1, 6, 6, 6, 17, 17) }

func randomRule(rng *rand.Rand, f impl.Filter) impl.NetRule {
	r := impl.NetRule{In: rng.Intn(2) == 0, Group: -1, High: 65535}
	if rng.Intn(3) == 0 {
		r.Proto = randomProto(rng)
	}
	if rng.Intn(3) == 0 {
		r.Addr, r.Bits = oneOf(rng, eight+1, 10<<24+2, 1<<32-1, 1, 7), oneOf(rng, 0, 1, 8, 30, 31, 32)
	}
	if rng.Intn(3) == 0 {
		r.Low, r.High = randomNetPort(rng), randomNetPort(rng)
	}
	if rng.Intn(3) == 0 {
		r.Group = rng.Int63n(int64(len(f.Groups)))
	}
	return r
}

func randomGroups(rng *rand.Rand, f *impl.Filter) {
	f.Groups = make([]impl.NetGroup, 1+rng.Intn(5))
	for at := range f.Groups {
		for range rng.Intn(6) {
			f.Groups[at].Rules = append(f.Groups[at].Rules, randomRule(rng, *f))
		}
	}
	for at := range f.Hosts {
		for group := range f.Groups {
			if rng.Intn(3) > 0 {
				f.Hosts[at].Groups = append(f.Hosts[at].Groups, int64(group))
			}
		}
	}
}

func randomForwards(rng *rand.Rand, f *impl.Filter) {
	for range rng.Intn(6) {
		w := impl.Forward{Proto: randomProto(rng), Port: max(1, randomNetPort(rng)), Addr: f.Hosts[rng.Intn(len(f.Hosts))].Addr, ToPort: max(1, randomNetPort(rng))}
		taken := slices.ContainsFunc(f.Forwards, func(v impl.Forward) bool { return v.Proto == w.Proto && v.Port == w.Port })
		if !taken {
			f.Forwards = append(f.Forwards, w)
		}
	}
}

func randomConn(rng *rand.Rand, f impl.Filter) impl.Conn {
	someone := func() int64 { return f.Hosts[rng.Intn(len(f.Hosts))].Addr }
	c := impl.Conn{Proto: randomProto(rng), A: someone(), APort: randomNetPort(rng), B: someone(), BPort: randomNetPort(rng), State: 2, Seen: max(0, f.Time-rng.Int63n(40))}
	if c.Proto == 6 {
		c.State = oneOf(rng, 1, 2, 3)
		c.FinA, c.FinB = rng.Intn(3) == 0, rng.Intn(3) == 0
	}
	switch rng.Intn(3) {
	case 0:
		c.A = randomFarAddr(rng)
	case 1:
		c.B = randomFarAddr(rng)
	default:
		return c
	}
	c.Outer = oneOf(rng, 53, 80, 1+rng.Int63n(65535), f.First, f.First+1, f.Last)
	return c
}

func randomFilter(rng *rand.Rand) impl.Filter {
	f := impl.Filter{Public: gate, First: 2000, Last: oneOf(rng, 2000, 2001, 2003, 65535), Time: oneOf(rng, 0, 20, 1000, 1<<40-50)}
	for _, addr := range randomHostAddrs(rng) {
		f.Hosts = append(f.Hosts, impl.NetHost{Addr: addr})
	}
	randomGroups(rng, &f)
	if len(f.Hosts) == 0 {
		return f
	}
	randomForwards(rng, &f)
	for range oneOf(rng, 0, 3, 10, 60) {
		c := randomConn(rng, f)
		apart := !slices.ContainsFunc(f.Conns, func(d impl.Conn) bool { return !plainApart(f, c, d) })
		if apart && len(f.Conns) < 24 {
			f.Conns = append(f.Conns, c)
		}
	}
	return f
}

// farSideAt is who outside is joined to the place that a Forward leads to, so that they may come there once more.
func farSideAt(f impl.Filter, w impl.Forward, addr int64, port int64) (int64, int64) {
	for _, c := range f.Conns {
		switch {
		case c.Proto != w.Proto || c.Outer == 0:
		case c.B == w.Addr && c.BPort == w.ToPort:
			return c.A, c.APort
		case c.A == w.Addr && c.APort == w.ToPort:
			return c.B, c.BPort
		}
	}
	return addr, port
}

// randomNetOp is mostly of something that is known or may begin.
func randomNetOp(rng *rand.Rand, f impl.Filter) impl.FilterOp {
	op := impl.FilterOp{Time: min(1<<40, f.Time+oneOf(rng, 0, 0, 0, 0, 1, 2, 9, 31, 61)), From: -1}
	if rng.Intn(400) == 0 {
		op.Time += 1001
	}
	host := func() int64 {
		if len(f.Hosts) == 0 {
			return 1
		}
		return f.Hosts[rng.Intn(len(f.Hosts))].Addr
	}
	p := impl.Packet{Proto: randomProto(rng), Src: randomFarAddr(rng), SrcPort: randomNetPort(rng), Dst: gate, DstPort: randomNetPort(rng)}
	switch {
	case len(f.Conns) > 0 && rng.Intn(2) == 0:
		p = plainWays(f, f.Conns[rng.Intn(len(f.Conns))])[rng.Intn(2)].sent
	case len(f.Forwards) > 0 && rng.Intn(3) == 0:
		w := f.Forwards[rng.Intn(len(f.Forwards))]
		p.Proto, p.DstPort = w.Proto, w.Port
		p.Src, p.SrcPort = farSideAt(f, w, p.Src, p.SrcPort)
	case rng.Intn(2) == 0:
		p.Src, p.Dst = host(), host()
	default:
		p.Src, p.Dst = host(), randomFarAddr(rng)
	}
	op.From = plainPlace(f, p.Src)
	if p.Proto == 6 {
		p.Flags = oneOf(rng, 1, 1, 1, 2, 3, 3, 4, 6, 6, rng.Int63n(16))
	}
	op.Packet = p
	return spoiltOp(rng, op)
}

// spoiltOp puts something wrong into a few ops.
func spoiltOp(rng *rand.Rand, op impl.FilterOp) impl.FilterOp {
	switch rng.Intn(60) {
	case 0:
		op.From = oneOf(rng, -2, -1, 0, 1, 2, 12)
	case 1:
		op.Packet.Dst = oneOf(rng, gate, -1, 7, 1, 1<<32)
	case 2:
		op.Packet.Src = oneOf(rng, gate, -1, 7, 1, 1<<32)
	case 3:
		op.Time = oneOf(rng, op.Time-1, -1, 1<<40+1)
	case 4:
		op.Packet.Flags = oneOf(rng, 0, 1, 15, 16, -1)
	case 5:
		op.Packet.SrcPort = oneOf(rng, -1, 0, 65535, 65536)
	case 6:
		op.Packet.DstPort = oneOf(rng, -1, 0, 65535, 65536)
	case 7:
		op.Packet.Proto = oneOf(rng, 0, 1, 2, 6, 17, 18)
	}
	return op
}

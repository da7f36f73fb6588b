package tests

import (
	"fmt"
	"math"
	"math/rand"
	"slices"
	"testing"

	"loop.example/g00038/impl"
)

func TestRunFilterRefusesWhatIsTooLongOrWrong(t *testing.T) {
	wrong := changedFilter(busyFilter(), func(f *impl.Filter) { f.First = 1023 })
	for what, f := range map[string]impl.Filter{"right": busyFilter(), "wrong": wrong, "none": {}} {
		for _, count := range []int{0, 1, 999, 1000, 1001, 5000} {
			ops := slices.Repeat([]impl.FilterOp{filterOp(100, 0, udpPacket(10, 1, farAway, 1))}, count)
			want := plainFilterRun(f, ops)
			got := checkFilterRun(t, fmt.Sprintf("%s, %d ops", what, count), f, ops)
			if count > 1000 {
				checkNumber(t, what, got.Code, impl.ErrSize)
			}
			checkNumber(t, what, int64(len(got.Outs)), int64(len(want.Outs)))
		}
	}
	none := impl.RunFilter(busyFilter(), nil)
	checkNumber(t, "no op", none.Code, impl.OK)
	checkFilter(t, "no op", none.Filter, busyFilter())
	old := changedFilter(busyFilter(), func(f *impl.Filter) { f.Time = 5000 })
	checkFilter(t, "no op, so nothing goes", impl.RunFilter(old, nil).Filter, old)
}

func TestFilterOpsOfNoForm(t *testing.T) {
	old := changedFilter(busyFilter(), func(f *impl.Filter) { f.Time = 5000 })
	refused := func(what string, op impl.FilterOp) {
		t.Helper()
		op.Time = max(op.Time, 5000)
		checkFilter(t, what, checkFilterOps(t, what, old, []impl.FilterOp{op}, filterCodes(impl.ErrForm)...), old)
	}
	for field, bounds := range packetBounds() {
		for n, right := range bounds {
			p := tcpPacket(10, 5, 20, 80, 1)
			*packetField(&p, field) = n
			if !right {
				refused(fmt.Sprintf("%s %d", field, n), filterOp(6000, 0, p))
			}
		}
	}
	for _, from := range []int64{-2, 4, 5, 12, math.MaxInt64, math.MinInt64} {
		refused(fmt.Sprintf("From %d", from), filterOp(6000, from, tcpPacket(10, 5, 20, 80, 1)))
	}
	for flags := int64(1); flags < 17; flags++ {
		for _, p := range []impl.Packet{udpPacket(10, 5, farAway, 80), pingPacket(10, 5, farAway, 80)} {
			p.Flags = flags
			refused(fmt.Sprintf("Proto %d with flags %d", p.Proto, flags), filterOp(6000, 0, p))
		}
	}
	alone := impl.Filter{Public: gate, First: 1024, Last: 1024}
	checkFilterOps(t, "no hosts", alone, []impl.FilterOp{filterOp(0, 0, udpPacket(1, 1, 2, 2)), filterOp(0, -1, udpPacket(1, 1, gate, 2))}, filterCodes(impl.ErrForm, impl.ErrNone)...)
}

func TestFilterTimes(t *testing.T) {
	last := int64(1) << 40
	for time, code := range map[int64]int64{
		100: impl.OK, 101: impl.OK, last - 1: impl.OK, last: impl.OK,
		99: impl.ErrForm, 0: impl.ErrForm, -1: impl.ErrForm, last + 1: impl.ErrForm, math.MaxInt64: impl.ErrForm, math.MinInt64: impl.ErrForm,
	} {
		what := fmt.Sprintf("Time %d", time)
		run := checkFilterRun(t, what, busyFilter(), []impl.FilterOp{filterOp(time, 0, udpPacket(10, 1, farAway, 9))})
		checkNumber(t, what, run.Outs[0].Code, code)
		if code != impl.OK {
			checkFilter(t, what, run.Filter, busyFilter())
			continue
		}
		checkNumber(t, what, run.Filter.Time, time)
	}
	p := udpPacket(10, 1, farAway, 9)
	told := verdict(-1, udpPacket(gate, 2000, farAway, 9))
	f := checkFilterOps(t, "backwards", sampleFilter(), []impl.FilterOp{filterOp(103, 0, p), filterOp(102, 0, p), filterOp(103, 0, p), filterOp(104, 0, p)}, told, impl.Verdict{Code: impl.ErrForm}, told, told)
	checkNumber(t, "backwards", f.Time, 104)
	checkNumber(t, "Seen", f.Conns[0].Seen, 104)
	f = checkFilterOps(t, "refused behind its form", busyFilter(), []impl.FilterOp{filterOp(150, 0, udpPacket(20, 1, farAway, 9))}, filterCodes(impl.ErrRight)...)
	checkNumber(t, "Time goes on, though", f.Time, 150)
}

// Each State and Proto, at and beside its stay; also by an op that is refused behind its form.
func TestWhatGoesOfConnsWithTime(t *testing.T) {
	for _, c := range []struct{ proto, state, stay int64 }{{6, impl.ConnNew, 30}, {6, impl.ConnOpen, 1000}, {6, impl.ConnClosing, 60}, {17, impl.ConnOpen, 60}, {1, impl.ConnOpen, 30}} {
		for _, age := range []int64{0, 1, c.stay - 1, c.stay, c.stay + 1, c.stay * 2, 100000} {
			conn := impl.Conn{Proto: c.proto, A: 10, APort: 7, B: 20, BPort: 8, State: c.state, Seen: 500}
			stays := []impl.Conn{{Proto: 6, A: 10, APort: 1, B: 40, BPort: 2, State: 2, Seen: 500 + age}, conn, {Proto: 6, A: 40, APort: 1, B: 30, BPort: 2, State: 2, Seen: 500 + age}}
			f := changedFilter(sampleFilter(), func(f *impl.Filter) { f.Time, f.Conns = 500+age, stays })
			early := changedFilter(f, func(f *impl.Filter) { f.Time, f.Conns[0].Seen, f.Conns[2].Seen = 500, 500, 500 })
			left := stays
			if age > c.stay {
				left = []impl.Conn{stays[0], stays[2]}
			}
			what := fmt.Sprintf("%+v at age %d", c, age)
			refused := []impl.FilterOp{filterOp(500+age, 0, udpPacket(20, 1, farAway, 9))}
			behind := checkFilterOps(t, what, f, refused, filterCodes(impl.ErrRight)...)
			checkConns(t, what, behind.Conns, left)
			behind = checkFilterOps(t, what+", by its Time", early, refused, filterCodes(impl.ErrRight)...)
			isLeft := slices.Contains(behind.Conns, conn)
			checkEqual(t, what+", by its Time", isLeft, age <= c.stay)
		}
	}
}

// What is seen again stays; what has gone is as if it never was.
func TestConnsThatAreSeenAgain(t *testing.T) {
	ask := udpPacket(10, 7, farAway, 53)
	told, answer := verdict(-1, udpPacket(gate, 2000, farAway, 53)), verdict(0, backwards(ask, 0))
	from := filterOp(0, -1, udpPacket(farAway, 53, gate, 2000))
	at := func(time int64, op impl.FilterOp) impl.FilterOp {
		op.Time = time
		return op
	}
	mine := filterOp(0, 0, ask)
	f := checkFilterOps(t, "within 60", sampleFilter(), []impl.FilterOp{at(100, mine), at(160, from), at(220, mine), at(280, from)}, told, answer, told, answer)
	checkNumber(t, "Seen", f.Conns[0].Seen, 280)
	f = checkFilterOps(t, "behind 60", sampleFilter(), []impl.FilterOp{at(100, mine), at(161, from)}, told, impl.Verdict{Code: impl.ErrNone})
	checkConns(t, "behind 60", f.Conns, nil)
	f = checkFilterOps(t, "anew", sampleFilter(), []impl.FilterOp{at(100, mine), at(161, mine)}, told, told)
	checkConns(t, "anew", f.Conns, []impl.Conn{{Proto: 17, A: 10, APort: 7, B: farAway, BPort: 53, Outer: 2000, State: 2, Seen: 161}})
}

func TestWhoMaySend(t *testing.T) {
	for _, c := range []struct {
		what string
		from int64
		p    impl.Packet
		code int64
	}{
		{"a host's own Src", 0, udpPacket(10, 1, farAway, 9), impl.OK},
		{"another host's Src", 0, udpPacket(20, 1, farAway, 9), impl.ErrRight},
		{"another host's Src, which may", 1, udpPacket(10, 1, farAway, 9), impl.ErrRight},
		{"an outside Src from a host", 0, udpPacket(farAway, 1, 40, 9), impl.ErrRight},
		{"Public as Src from a host", 0, udpPacket(gate, 1, 40, 9), impl.ErrRight},
		{"another's Src to Public", 0, udpPacket(40, 1, gate, 53), impl.ErrRight},
		{"a host's own Src to Public", 0, udpPacket(10, 1, gate, 53), impl.ErrNone},
		{"to Public where no Forward is", 0, udpPacket(10, 1, gate, 9), impl.ErrNone},
		{"to Public, not let out", 2, udpPacket(30, 1, gate, 53), impl.ErrNone},
		{"to Public, no beginning", 0, tcpPacket(10, 1, gate, 80, 2), impl.ErrNone},
		{"to itself", 0, udpPacket(10, 1, 10, 9), impl.OK},
		{"from outside to Public", -1, udpPacket(eight, 1, gate, 53), impl.OK},
		{"from outside to a host", -1, udpPacket(eight, 1, 20, 530), impl.ErrRight},
		{"from outside to outside", -1, udpPacket(eight, 1, farAway, 53), impl.ErrRight},
		{"from outside with a host's Src", -1, udpPacket(10, 1, gate, 53), impl.ErrRight},
		{"from outside with Public's Src", -1, udpPacket(gate, 1, gate, 53), impl.ErrRight},
		{"from outside with a host's Src to a host", -1, udpPacket(10, 1, 40, 53), impl.ErrRight},
		{"from outside with the Src 0", -1, tcpPacket(0, 1, gate, 80, 1), impl.OK},
		{"from outside with the last Src", -1, tcpPacket(lastWord, 1, gate, 80, 1), impl.OK},
		{"to the Dst 0", 0, udpPacket(10, 1, 0, 9), impl.OK},
		{"to the last Dst", 0, udpPacket(10, 1, lastWord, 9), impl.OK},
	} {
		run := checkFilterRun(t, c.what, sampleFilter(), []impl.FilterOp{filterOp(100, c.from, c.p)})
		checkNumber(t, c.what, run.Outs[0].Code, c.code)
		if c.code != impl.OK {
			checkFilter(t, c.what+": nothing changes", run.Filter, sampleFilter())
		}
	}
}

// Known connections do not change who may send what.
func TestWhoMaySendOfWhatIsKnown(t *testing.T) {
	for _, c := range []struct {
		what string
		op   impl.FilterOp
		code int64
	}{
		{"another host for A", filterOp(100, 3, tcpPacket(10, 1000, 20, 80, 2)), impl.ErrRight},
		{"outside for A", filterOp(100, -1, tcpPacket(10, 1000, 20, 80, 2)), impl.ErrRight},
		{"outside to the host's own port", filterOp(100, -1, udpPacket(eight+1, 7, 20, 530)), impl.ErrRight},
		{"outside for A, to Public", filterOp(100, -1, tcpPacket(10, 1001, gate, 2000, 2)), impl.ErrRight},
		{"a host with Public as its Src", filterOp(100, 0, tcpPacket(gate, 2000, farAway, 80, 2)), impl.ErrRight},
		{"outside with Public as its Src", filterOp(100, -1, tcpPacket(gate, 2000, farAway, 80, 2)), impl.ErrRight},
		{"a host to Public by Outer", filterOp(100, 1, tcpPacket(20, 80, gate, 2000, 2)), impl.ErrNone},
		{"outside from another port", filterOp(100, -1, tcpPacket(farAway, 81, gate, 2000, 2)), impl.ErrState},
		{"outside from another address", filterOp(100, -1, tcpPacket(farAway+9, 80, gate, 2000, 2)), impl.ErrState},
		{"outside to another port", filterOp(100, -1, tcpPacket(farAway, 80, gate, 2001, 2)), impl.ErrState},
		{"outside to the host's own number", filterOp(100, -1, tcpPacket(farAway, 80, gate, 1001, 2)), impl.ErrState},
		{"outside of another Proto", filterOp(100, -1, pingPacket(farAway, 80, gate, 2000)), impl.ErrNone},
		{"a host from another port", filterOp(100, 0, tcpPacket(10, 999, 20, 80, 2)), impl.ErrState},
		{"a host to another port", filterOp(100, 0, tcpPacket(10, 1000, 20, 81, 2)), impl.ErrState},
		{"a host to another host", filterOp(100, 0, tcpPacket(10, 1000, 40, 80, 2)), impl.ErrState},
		{"a host by Outer as its own port", filterOp(100, 0, tcpPacket(10, 2000, farAway, 80, 2)), impl.ErrState},
	} {
		run := checkFilterRun(t, c.what, busyFilter(), []impl.FilterOp{c.op})
		checkNumber(t, c.what, run.Outs[0].Code, c.code)
		checkFilter(t, c.what+": nothing changes", run.Filter, busyFilter())
	}
}

// Packets of each connection of the busy filter, from A and from B, told as the other side sees them; rules are asked no more.
func TestWhatBelongsToAConnection(t *testing.T) {
	far := int64(farAway)
	for _, c := range []struct {
		at   int
		from int64
		sent impl.Packet
		to   int64
		told impl.Packet
	}{
		{0, 0, tcpPacket(10, 1000, 20, 80, 2), 1, tcpPacket(10, 1000, 20, 80, 2)},
		{0, 1, tcpPacket(20, 80, 10, 1000, 2), 0, tcpPacket(20, 80, 10, 1000, 2)},
		{1, 0, tcpPacket(10, 1001, far, 80, 2), -1, tcpPacket(gate, 2000, far, 80, 2)},
		{1, -1, tcpPacket(far, 80, gate, 2000, 2), 0, tcpPacket(far, 80, 10, 1001, 2)},
		{2, -1, udpPacket(eight+1, 7, gate, 53), 1, udpPacket(eight+1, 7, 20, 530)},
		{2, 1, udpPacket(20, 530, eight+1, 7), -1, udpPacket(gate, 53, eight+1, 7)},
		{3, 0, pingPacket(10, 5, 20, 6), 1, pingPacket(10, 5, 20, 6)},
		{3, 1, pingPacket(20, 6, 10, 5), 0, pingPacket(20, 6, 10, 5)},
		{4, -1, tcpPacket(far+1, 4000, gate, 80, 2), 1, tcpPacket(far+1, 4000, 20, 85, 2)},
		{4, 1, tcpPacket(20, 85, far+1, 4000, 2), -1, tcpPacket(gate, 80, far+1, 4000, 2)},
		{5, 3, udpPacket(40, 1000, far, 53), -1, udpPacket(gate, 2000, far, 53)},
		{5, -1, udpPacket(far, 53, gate, 2000), 3, udpPacket(far, 53, 40, 1000)},
		{6, 3, tcpPacket(40, 1000, 20, 80, 0), 1, tcpPacket(40, 1000, 20, 80, 0)},
		{6, 1, tcpPacket(20, 80, 40, 1000, 0), 3, tcpPacket(20, 80, 40, 1000, 0)},
	} {
		for _, f := range []impl.Filter{busyFilter(), changedFilter(busyFilter(), func(f *impl.Filter) { f.Groups = make([]impl.NetGroup, 4) }), changedFilter(busyFilter(), func(f *impl.Filter) { f.Forwards = nil })} {
			what := fmt.Sprintf("conn %d from %d", c.at, c.from)
			behind := checkFilterOps(t, what, f, []impl.FilterOp{filterOp(103, c.from, c.sent)}, verdict(c.to, c.told))
			want := slices.Clone(f.Conns)
			want[c.at].Seen = 103
			checkConns(t, what, behind.Conns, want)
		}
	}
}

// Two that a packet belongs to: in a right filter these are both ways of a host's connection with itself at one port.
func TestAPacketThatBelongsToBothWays(t *testing.T) {
	self := impl.Conn{Proto: 6, A: 10, APort: 5, B: 10, BPort: 5, State: impl.ConnNew, Seen: 100}
	f := changedFilter(sampleFilter(), func(f *impl.Filter) { f.Conns = []impl.Conn{self} })
	p := tcpPacket(10, 5, 10, 5, 3)
	behind := checkFilterOps(t, "from A, so it stays new", f, []impl.FilterOp{filterOp(100, 0, p)}, verdict(0, p))
	checkConns(t, "from A, so it stays new", behind.Conns, []impl.Conn{self})
	p.Flags = impl.FlagFin
	behind = checkFilterOps(t, "from A, whose fin it is", f, []impl.FilterOp{filterOp(100, 0, p), filterOp(100, 0, p)}, verdict(0, p), verdict(0, p))
	want := self
	want.State, want.FinA = impl.ConnClosing, true
	checkConns(t, "from A, whose fin it is", behind.Conns, []impl.Conn{want})
}

// Where Conns go, those behind them are still found, and the first one of Conns is who a packet belongs to.
func TestConnsAreFoundBehindThoseThatGo(t *testing.T) {
	f := changedFilter(busyFilter(), func(f *impl.Filter) { f.Conns[2].Seen, f.Conns[3].Seen = 10, 10 })
	far := int64(farAway)
	reset := tcpPacket(10, 1000, 20, 80, impl.FlagReset)
	ops := []impl.FilterOp{
		filterOp(100, 0, reset),
		filterOp(100, -1, udpPacket(far, 53, gate, 2000)),
		filterOp(100, 1, tcpPacket(20, 80, 40, 1000, 0)),
		filterOp(100, 0, reset),
		filterOp(100, 0, tcpPacket(10, 1001, far, 80, impl.FlagReset)),
		filterOp(100, 3, udpPacket(40, 1000, far, 53)),
		filterOp(100, -1, tcpPacket(far+1, 4000, gate, 80, 0)),
	}
	behind := checkFilterOps(t, "behind", f, ops,
		verdict(1, reset), verdict(3, udpPacket(far, 53, 40, 1000)), verdict(3, tcpPacket(20, 80, 40, 1000, 0)), impl.Verdict{Code: impl.ErrState},
		verdict(-1, tcpPacket(gate, 2000, far, 80, impl.FlagReset)), verdict(-1, udpPacket(gate, 2000, far, 53)), verdict(1, tcpPacket(far+1, 4000, 20, 85, 0)))
	want := busyFilter().Conns[4:]
	for at := range want {
		want[at].Seen = 100
	}
	checkConns(t, "behind", behind.Conns, want)
}

// tcpStep is a packet of a connection of ProtoTcp, and what becomes of that.
type tcpStep struct {
	what  string
	was   impl.Conn
	fromB bool
	flags int64
	is    impl.Conn
	gone  bool
}

func tcpSteps() []tcpStep {
	state := func(state int64, finA bool, finB bool) impl.Conn {
		return impl.Conn{State: state, FinA: finA, FinB: finB}
	}
	fresh, open, closing := state(1, false, false), state(2, false, false), state(3, false, false)
	finA, finB, both := state(3, true, false), state(3, false, true), state(3, true, true)
	return []tcpStep{
		{"syn and ack from B", fresh, true, 3, open, false},
		{"syn and ack from A", fresh, false, 3, fresh, false},
		{"syn alone from B", fresh, true, 1, fresh, false},
		{"ack alone from B", fresh, true, 2, fresh, false},
		{"ack alone from A", fresh, false, 2, fresh, false},
		{"nothing from B", fresh, true, 0, fresh, false},
		{"syn again from A", fresh, false, 1, fresh, false},
		{"syn, ack and fin from B", fresh, true, 7, finB, false},
		{"syn, ack and fin from A", fresh, false, 7, finA, false},
		{"syn, ack and reset from B", fresh, true, 11, fresh, true},
		{"fin from A in new", fresh, false, 4, finA, false},
		{"fin from B in new", fresh, true, 4, finB, false},
		{"reset from A in new", fresh, false, 8, fresh, true},
		{"reset from B in new", fresh, true, 8, fresh, true},
		{"syn and ack from B in open", open, true, 3, open, false},
		{"ack from A in open", open, false, 2, open, false},
		{"fin from A", open, false, 4, finA, false},
		{"fin and ack from B", open, true, 6, finB, false},
		{"reset from A", open, false, 8, open, true},
		{"reset and ack from B", open, true, 10, open, true},
		{"all from B", open, true, 15, open, true},
		{"fin again from A", finA, false, 4, finA, false},
		{"ack from B behind A's fin", finA, true, 2, finA, false},
		{"ack from A behind its own fin", finA, false, 2, finA, false},
		{"syn and ack from B in closing", finA, true, 3, finA, false},
		{"fin from B behind A's", finA, true, 4, both, false},
		{"fin and ack from B behind A's", finA, true, 6, both, false},
		{"fin from A behind B's", finB, false, 4, both, false},
		{"reset behind A's fin", finA, true, 8, finA, true},
		{"ack from A behind both", both, false, 2, both, true},
		{"ack from B behind both", both, true, 2, both, true},
		{"syn and ack behind both", both, true, 3, both, true},
		{"fin and ack behind both", both, false, 6, both, false},
		{"fin alone behind both", both, true, 4, both, false},
		{"syn alone behind both", both, false, 1, both, false},
		{"nothing behind both", both, false, 0, both, false},
		{"reset behind both", both, true, 8, both, true},
		{"reset and fin behind both", both, true, 12, both, true},
		{"ack in closing with no fin", closing, true, 2, closing, false},
		{"fin in closing with no fin", closing, true, 4, finB, false},
		{"ack in open with both", state(2, true, true), true, 2, both, true},
		{"syn and ack from B in new with both", state(1, true, true), true, 3, both, true},
		{"nothing in new with both", state(1, true, true), true, 0, state(1, true, true), false},
	}
}

// tcpPlaces are the three kinds of connections of a filter, with the numbers of A and B.
func tcpPlaces() []struct {
	conn impl.Conn
	a, b int64
} {
	return []struct {
		conn impl.Conn
		a, b int64
	}{
		{impl.Conn{Proto: 6, A: 10, APort: 1, B: 20, BPort: 2}, 0, 1},
		{impl.Conn{Proto: 6, A: 10, APort: 1, B: farAway, BPort: 2, Outer: 2002}, 0, -1},
		{impl.Conn{Proto: 6, A: farAway, APort: 1, B: 20, BPort: 85, Outer: 80}, -1, 1},
	}
}

func TestStepsOfTcp(t *testing.T) {
	for _, place := range tcpPlaces() {
		for _, step := range tcpSteps() {
			conn := place.conn
			conn.State, conn.FinA, conn.FinB, conn.Seen = step.was.State, step.was.FinA, step.was.FinB, 90
			f := changedFilter(sampleFilter(), func(f *impl.Filter) { f.Conns = []impl.Conn{conn} })
			from, way := place.a, plainWays(f, conn)[0]
			if step.fromB {
				from, way = place.b, plainWays(f, conn)[1]
			}
			way.sent.Flags, way.told.Flags = step.flags, step.flags
			what := fmt.Sprintf("%s, from %d", step.what, from)
			behind := checkFilterOps(t, what, f, []impl.FilterOp{filterOp(100, from, way.sent)}, verdict(way.to, way.told))
			if step.gone {
				checkConns(t, what, behind.Conns, nil)
				continue
			}
			conn.State, conn.FinA, conn.FinB, conn.Seen = step.is.State, step.is.FinA, step.is.FinB, 100
			checkConns(t, what, behind.Conns, []impl.Conn{conn})
		}
	}
}

// Each state with each flags from each side, held to the plain filter alone.
func TestAllStepsOfTcp(t *testing.T) {
	for _, place := range tcpPlaces() {
		for n := range 3 * 4 * 2 * 16 {
			conn := place.conn
			conn.State, conn.FinA, conn.FinB = int64(1+n%3), n/3%2 == 1, n/6%2 == 1
			f := changedFilter(sampleFilter(), func(f *impl.Filter) { f.Conns, f.Time = []impl.Conn{conn}, 0 })
			way := plainWays(f, conn)[n/12%2]
			way.sent.Flags = int64(n / 24)
			run := checkFilterRun(t, fmt.Sprintf("step %d of %+v", n, conn), f, []impl.FilterOp{filterOp(5, plainPlace(f, way.sent.Src), way.sent)})
			checkNumber(t, "passes", run.Outs[0].Code, impl.OK)
		}
	}
}

// A whole life: begun, answered, closed from both sides, and gone; then another one at the same ports.
func TestALifeOfTcp(t *testing.T) {
	far := int64(farAway)
	out := func(flags int64) impl.FilterOp { return filterOp(100, 0, tcpPacket(10, 1, far, 80, flags)) }
	in := func(flags int64) impl.FilterOp { return filterOp(100, -1, tcpPacket(far, 80, gate, 2000, flags)) }
	sent := func(flags int64) impl.Verdict { return verdict(-1, tcpPacket(gate, 2000, far, 80, flags)) }
	got := func(flags int64) impl.Verdict { return verdict(0, tcpPacket(far, 80, 10, 1, flags)) }
	life := []impl.FilterOp{out(1), in(3), out(2), in(2), out(6), in(2), in(6), out(2)}
	told := []impl.Verdict{sent(1), got(3), sent(2), got(2), sent(6), got(2), got(6), sent(2)}
	var states []int64
	for n := range life {
		behind := checkFilterOps(t, fmt.Sprintf("%d packets", n+1), sampleFilter(), life[:n+1], told[:n+1]...)
		if len(behind.Conns) == 1 {
			states = append(states, behind.Conns[0].State)
		}
	}
	checkNumbers(t, "states", states, []int64{1, 2, 2, 2, 3, 3, 3})
	again := append(slices.Clone(life), in(2), out(2), out(1), in(3))
	want := append(slices.Clone(told), impl.Verdict{Code: impl.ErrState}, impl.Verdict{Code: impl.ErrState}, sent(1), got(3))
	checkFilterOps(t, "and again", sampleFilter(), again, want...)
}

func TestWhatBeginsAConnection(t *testing.T) {
	far := int64(farAway)
	for _, c := range []struct {
		what string
		from int64
		sent impl.Packet
		to   int64
		told impl.Packet
		conn impl.Conn
	}{
		{"tcp between hosts", 0, tcpPacket(10, 7, 20, 85, 1), 1, tcpPacket(10, 7, 20, 85, 1), impl.Conn{Proto: 6, A: 10, APort: 7, B: 20, BPort: 85, State: 1}},
		{"udp between hosts", 3, udpPacket(40, 7, 10, 0), 0, udpPacket(40, 7, 10, 0), impl.Conn{Proto: 17, A: 40, APort: 7, B: 10, BPort: 0, State: 2}},
		{"ping between hosts", 0, pingPacket(10, 0, 20, 0), 1, pingPacket(10, 0, 20, 0), impl.Conn{Proto: 1, A: 10, APort: 0, B: 20, BPort: 0, State: 2}},
		{"tcp to outside", 1, tcpPacket(20, 7, far, 25, 1), -1, tcpPacket(gate, 2000, far, 25, 1), impl.Conn{Proto: 6, A: 20, APort: 7, B: far, BPort: 25, Outer: 2000, State: 1}},
		{"udp to outside", 3, udpPacket(40, 65535, 0, 65535), -1, udpPacket(gate, 2000, 0, 65535), impl.Conn{Proto: 17, A: 40, APort: 65535, B: 0, BPort: 65535, Outer: 2000, State: 2}},
		{"ping to outside", 0, pingPacket(10, 3, far, 0), -1, pingPacket(gate, 2000, far, 0), impl.Conn{Proto: 1, A: 10, APort: 3, B: far, BPort: 0, Outer: 2000, State: 2}},
		{"tcp by a Forward", -1, tcpPacket(far, 0, gate, 80, 1), 1, tcpPacket(far, 0, 20, 85, 1), impl.Conn{Proto: 6, A: far, APort: 0, B: 20, BPort: 85, Outer: 80, State: 1}},
		{"tcp by another one", -1, tcpPacket(far, 9, gate, 81, 1), 1, tcpPacket(far, 9, 20, 85, 1), impl.Conn{Proto: 6, A: far, APort: 9, B: 20, BPort: 85, Outer: 81, State: 1}},
		{"udp by a Forward", -1, udpPacket(eight, 9, gate, 53), 1, udpPacket(eight, 9, 20, 530), impl.Conn{Proto: 17, A: eight, APort: 9, B: 20, BPort: 530, Outer: 53, State: 2}},
		{"udp by a Forward of a port that is tcp's, too", -1, udpPacket(eight, 9, gate, 80), 1, udpPacket(eight, 9, 20, 531), impl.Conn{Proto: 17, A: eight, APort: 9, B: 20, BPort: 531, Outer: 80, State: 2}},
		{"ping by a Forward", -1, pingPacket(far, 9, gate, 7), 1, pingPacket(far, 9, 20, 9), impl.Conn{Proto: 1, A: far, APort: 9, B: 20, BPort: 9, Outer: 7, State: 2}},
		{"a host with itself", 0, udpPacket(10, 1, 10, 2), 0, udpPacket(10, 1, 10, 2), impl.Conn{Proto: 17, A: 10, APort: 1, B: 10, BPort: 2, State: 2}},
	} {
		behind := checkFilterOps(t, c.what, sampleFilter(), []impl.FilterOp{filterOp(105, c.from, c.sent)}, verdict(c.to, c.told))
		c.conn.Seen = 105
		checkConns(t, c.what, behind.Conns, []impl.Conn{c.conn})
		behind.Time, behind.Conns = 100, nil
		checkFilter(t, c.what+": all else", behind, sampleFilter())
	}
}

func TestWhatDoesNotBegin(t *testing.T) {
	far := int64(farAway)
	for _, c := range []struct {
		what string
		op   impl.FilterOp
		code int64
	}{
		{"in by no rule", filterOp(100, 0, tcpPacket(10, 7, 20, 91, 1)), impl.ErrRight},
		{"out by no rule", filterOp(100, 1, udpPacket(20, 7, far, 25)), impl.ErrRight},
		{"to a host without groups", filterOp(100, 0, udpPacket(10, 7, 30, 9)), impl.ErrRight},
		{"from a host without groups", filterOp(100, 2, udpPacket(30, 7, far, 9)), impl.ErrRight},
		{"no Forward", filterOp(100, -1, udpPacket(eight, 9, gate, 54)), impl.ErrNone},
		{"no Forward of this Proto", filterOp(100, -1, pingPacket(eight, 9, gate, 53)), impl.ErrNone},
		{"no Forward, but the place behind one", filterOp(100, -1, tcpPacket(far, 9, gate, 85, 1)), impl.ErrNone},
		{"the port 0", filterOp(100, -1, udpPacket(eight, 9, gate, 0)), impl.ErrNone},
		{"by a Forward, in by no rule", filterOp(100, -1, udpPacket(far, 9, gate, 53)), impl.ErrRight},
		{"by a Forward to a host without groups", filterOp(100, -1, tcpPacket(far, 9, gate, 443, 1)), impl.ErrRight},
		{"by a Forward, in by a group of nobody outside", filterOp(100, -1, udpPacket(far, 9, gate, 2001)), impl.ErrRight},
	} {
		behind := checkFilterOps(t, c.what, sampleFilter(), []impl.FilterOp{c.op}, filterCodes(c.code)...)
		checkFilter(t, c.what, behind, sampleFilter())
	}
	closed := changedFilter(sampleFilter(), func(f *impl.Filter) { f.Groups[1].Rules[0].High = 84 })
	checkFilterOps(t, "the rule is asked for ToPort", closed, []impl.FilterOp{filterOp(100, -1, tcpPacket(far, 9, gate, 80, 1)), filterOp(100, -1, tcpPacket(far, 9, gate, 81, 1))}, filterCodes(impl.ErrRight, impl.ErrRight)...)
}

// Of ProtoTcp nothing begins but with just FlagSyn; whoever sends, and whether rules would let it.
func TestFlagsThatBeginTcp(t *testing.T) {
	far := int64(farAway)
	for flags := range int64(16) {
		for _, c := range []struct {
			from int64
			p    impl.Packet
			code int64
		}{
			{0, tcpPacket(10, 7, 20, 85, flags), impl.OK},
			{0, tcpPacket(10, 7, far, 85, flags), impl.OK},
			{-1, tcpPacket(far, 7, gate, 80, flags), impl.OK},
			{0, tcpPacket(10, 7, 30, 85, flags), impl.ErrRight},
			{-1, tcpPacket(far, 7, gate, 85, flags), impl.ErrNone},
			{-1, tcpPacket(far, 7, gate, 443, flags), impl.ErrRight},
		} {
			code := c.code
			if flags != impl.FlagSyn {
				code = impl.ErrState
			}
			run := checkFilterRun(t, fmt.Sprintf("%+v", c.p), sampleFilter(), []impl.FilterOp{filterOp(100, c.from, c.p)})
			checkNumber(t, fmt.Sprintf("%+v", c.p), run.Outs[0].Code, code)
		}
	}
}

func TestConflicts(t *testing.T) {
	far := int64(farAway)
	for _, c := range []struct {
		what  string
		conns []impl.Conn
		p     impl.Packet
		code  int64
	}{
		{"by another Forward", []impl.Conn{{Proto: 6, A: far, APort: 9, B: 20, BPort: 85, Outer: 80, State: 2}}, tcpPacket(far, 9, gate, 81, 1), impl.ErrConflict},
		{"begun by the host", []impl.Conn{{Proto: 6, A: 20, APort: 85, B: far, BPort: 9, Outer: 2000, State: 2}}, tcpPacket(far, 9, gate, 81, 1), impl.ErrConflict},
		{"begun by the host, udp", []impl.Conn{{Proto: 17, A: 20, APort: 530, B: eight, BPort: 9, Outer: 2000, State: 2}}, udpPacket(eight, 9, gate, 53), impl.ErrConflict},
		{"of another Proto", []impl.Conn{{Proto: 17, A: far, APort: 9, B: 20, BPort: 85, Outer: 80, State: 2}}, tcpPacket(far, 9, gate, 81, 1), impl.OK},
		{"from another port", []impl.Conn{{Proto: 6, A: far, APort: 8, B: 20, BPort: 85, Outer: 80, State: 2}}, tcpPacket(far, 9, gate, 81, 1), impl.OK},
		{"from another address", []impl.Conn{{Proto: 6, A: far + 1, APort: 9, B: 20, BPort: 85, Outer: 80, State: 2}}, tcpPacket(far, 9, gate, 81, 1), impl.OK},
		{"to another port", []impl.Conn{{Proto: 6, A: far, APort: 9, B: 20, BPort: 86, Outer: 80, State: 2}}, tcpPacket(far, 9, gate, 81, 1), impl.OK},
		{"to another host", []impl.Conn{{Proto: 6, A: far, APort: 9, B: 40, BPort: 85, Outer: 80, State: 2}}, tcpPacket(far, 9, gate, 81, 1), impl.OK},
		{"ports turned", []impl.Conn{{Proto: 6, A: 20, APort: 9, B: far, BPort: 85, Outer: 2000, State: 2}}, tcpPacket(far, 9, gate, 81, 1), impl.OK},
		{"the same Forward: it belongs", []impl.Conn{{Proto: 6, A: far, APort: 9, B: 20, BPort: 85, Outer: 81, State: 2}}, tcpPacket(far, 9, gate, 81, 1), impl.OK},
	} {
		f := changedFilter(sampleFilter(), func(f *impl.Filter) {
			f.Conns = c.conns
			for at := range f.Conns {
				f.Conns[at].Seen = 99
			}
		})
		run := checkFilterRun(t, c.what, f, []impl.FilterOp{filterOp(100, -1, c.p)})
		checkNumber(t, c.what, run.Outs[0].Code, c.code)
		if c.code != impl.OK {
			checkFilter(t, c.what+": nothing changes", run.Filter, f)
		}
	}
}

// full has MaxConns connections between two hosts, which take no port at Public.
func full(f *impl.Filter) {
	for len(f.Conns) < 24 {
		f.Conns = append(f.Conns, impl.Conn{Proto: 17, A: 10, APort: int64(len(f.Conns)), B: 30, BPort: 9, State: 2, Seen: 100})
	}
}

func TestConnsThatAreFull(t *testing.T) {
	far := int64(farAway)
	for what, op := range map[string]impl.FilterOp{
		"between hosts": filterOp(100, 0, udpPacket(10, 7, 40, 9)),
		"to outside":    filterOp(100, 0, udpPacket(10, 7, far, 9)),
		"by a Forward":  filterOp(100, -1, tcpPacket(far, 7, gate, 80, 1)),
	} {
		f := changedFilter(sampleFilter(), full)
		run := checkFilterRun(t, what, f, []impl.FilterOp{op})
		checkNumber(t, what, run.Outs[0].Code, impl.ErrCount)
		checkFilter(t, what, run.Filter, f)
		f.Conns = f.Conns[:23]
		run = checkFilterRun(t, what+", the last one", f, []impl.FilterOp{op, op})
		checkNumber(t, what+", the last one", run.Outs[0].Code, impl.OK)
		checkEqual(t, what+", the last one", len(run.Filter.Conns), 24)
		f = changedFilter(sampleFilter(), func(f *impl.Filter) {
			full(f)
			f.Conns[11].Seen = 39
		})
		run = checkFilterRun(t, what+", behind one that goes", f, []impl.FilterOp{op})
		checkNumber(t, what+", behind one that goes", run.Outs[0].Code, impl.OK)
	}
	known := changedFilter(busyFilter(), full)
	checkFilterOps(t, "what is known passes", known, []impl.FilterOp{filterOp(100, -1, udpPacket(far, 53, gate, 2000))}, verdict(3, udpPacket(far, 53, 40, 1000)))
}

// The sample's First..Last are 2000..2003, of which 2001 is a Forward's of udp.
func TestOuterIsTheFirstThatIsFree(t *testing.T) {
	outers := func(what string, f impl.Filter, proto int64, count int) []int64 {
		var ops []impl.FilterOp
		for n := range count {
			p := impl.Packet{Proto: proto, Src: 10, SrcPort: int64(n), Dst: farAway, DstPort: 9}
			if proto == 6 {
				p.Flags = 1
			}
			ops = append(ops, filterOp(100, 0, p))
		}
		var told []int64
		for _, out := range checkFilterRun(t, what, f, ops).Outs {
			told = append(told, out.Packet.SrcPort)
			checkNumber(t, what, out.Code, map[bool]int64{true: impl.ErrCount, false: impl.OK}[out.Packet.SrcPort == 0])
		}
		return told
	}
	taken := func(conns ...impl.Conn) impl.Filter {
		return changedFilter(sampleFilter(), func(f *impl.Filter) {
			f.Conns = conns
			for at := range f.Conns {
				f.Conns[at].State, f.Conns[at].Seen = 2, 100
			}
		})
	}
	checkNumbers(t, "udp", outers("udp", sampleFilter(), 17, 5), []int64{2000, 2002, 2003, 0, 0})
	checkNumbers(t, "tcp", outers("tcp", sampleFilter(), 6, 6), []int64{2000, 2001, 2002, 2003, 0, 0})
	checkNumbers(t, "ping", outers("ping", sampleFilter(), 1, 5), []int64{2000, 2001, 2002, 2003, 0})
	other := taken(impl.Conn{Proto: 6, A: 40, APort: 1, B: farAway, BPort: 9, Outer: 2000}, impl.Conn{Proto: 17, A: 40, APort: 1, B: 7, BPort: 7, Outer: 2002})
	checkNumbers(t, "udp beside tcp", outers("udp beside tcp", other, 17, 3), []int64{2000, 2003, 0})
	checkNumbers(t, "tcp beside udp", outers("tcp beside udp", other, 6, 4), []int64{2001, 2002, 2003, 0})
	forwarded := taken(impl.Conn{Proto: 6, A: 7, APort: 7, B: 40, BPort: 1, Outer: 2001})
	checkNumbers(t, "a forwarded one takes its port, too", outers("forwarded", forwarded, 6, 4), []int64{2000, 2002, 2003, 0})
	one := changedFilter(sampleFilter(), func(f *impl.Filter) { f.First, f.Last = 2001, 2001 })
	checkNumbers(t, "one port, udp", outers("one port, udp", one, 17, 2), []int64{0, 0})
	checkNumbers(t, "one port, tcp", outers("one port, tcp", one, 6, 2), []int64{2001, 0})
	last := changedFilter(sampleFilter(), func(f *impl.Filter) { f.First, f.Last = 65535, 65535 })
	checkNumbers(t, "the last port", outers("the last port", last, 17, 2), []int64{65535, 0})
	all := changedFilter(sampleFilter(), func(f *impl.Filter) { f.First, f.Last = 1024, 65535 })
	checkNumbers(t, "MaxConns of all ports", outers("MaxConns of all ports", all, 17, 25), append(inSteps(1024, 1, 24), 0))
}

// Where no port is free, hosts go on among themselves and with who comes by a Forward.
func TestWhereNoPortIsFree(t *testing.T) {
	f := changedFilter(sampleFilter(), func(f *impl.Filter) { f.First, f.Last = 2001, 2001 })
	far := int64(farAway)
	ops := []impl.FilterOp{filterOp(100, 0, udpPacket(10, 1, far, 1)), filterOp(100, 0, udpPacket(10, 1, 40, 1)), filterOp(100, -1, udpPacket(eight, 1, gate, 53)), filterOp(100, -1, udpPacket(eight, 1, gate, 2001))}
	checkFilterOps(t, "no port", f, ops, impl.Verdict{Code: impl.ErrCount}, verdict(3, udpPacket(10, 1, 40, 1)), verdict(1, udpPacket(eight, 1, 20, 530)), verdict(3, udpPacket(eight, 1, 40, 2001)))
}

// netFault puts one thing wrong with a packet, or with the filter.
type netFault struct {
	code int64
	put  func(f *impl.Filter, op *impl.FilterOp)
}

// checkFaultOrder puts each choice of faults at once: the first one in the document's order is told.
func checkFaultOrder(t *testing.T, what string, f impl.Filter, op impl.FilterOp, faults []netFault) {
	t.Helper()
	for chosen := range 1 << len(faults) {
		wrong, asked, code := copyFilter(f), op, int64(impl.OK)
		for at, fault := range faults {
			if chosen>>at&1 == 0 {
				continue
			}
			fault.put(&wrong, &asked)
			if code == impl.OK {
				code = fault.code
			}
		}
		run := checkFilterRun(t, fmt.Sprintf("%s %b", what, chosen), wrong, []impl.FilterOp{asked})
		checkNumber(t, fmt.Sprintf("%s %b", what, chosen), run.Code, impl.OK)
		checkNumber(t, fmt.Sprintf("%s %b", what, chosen), run.Outs[0].Code, code)
	}
}

func TestWhichRefusalOfAHostComesFirst(t *testing.T) {
	noForm := netFault{impl.ErrForm, func(_ *impl.Filter, op *impl.FilterOp) { op.Packet.SrcPort = -1 }}
	notIts := netFault{impl.ErrRight, func(_ *impl.Filter, op *impl.FilterOp) { op.From = 3 }}
	noStart := netFault{impl.ErrState, func(_ *impl.Filter, op *impl.FilterOp) { op.Packet.Flags = 2 }}
	noRule := netFault{impl.ErrRight, func(f *impl.Filter, _ *impl.FilterOp) { f.Groups[0].Rules = nil }}
	tooMany := netFault{impl.ErrCount, func(f *impl.Filter, _ *impl.FilterOp) { full(f) }}
	noPort := netFault{impl.ErrCount, func(f *impl.Filter, _ *impl.FilterOp) {
		f.First, f.Last, f.Forwards = 2000, 2000, []impl.Forward{forward(6, 2000, 20, 1)}
	}}
	toGate := netFault{impl.ErrNone, func(_ *impl.Filter, op *impl.FilterOp) { op.Packet.Dst = gate }}
	out := filterOp(100, 0, tcpPacket(10, 7, farAway, 80, 1))
	checkFaultOrder(t, "to outside", sampleFilter(), out, []netFault{noForm, notIts, toGate, noStart, noRule, tooMany, noPort})
	inside := filterOp(100, 0, tcpPacket(10, 7, 20, 80, 1))
	checkFaultOrder(t, "inside", sampleFilter(), inside, []netFault{noForm, notIts, noStart, noRule, tooMany})
}

func TestWhichRefusalOfOutsideComesFirst(t *testing.T) {
	conflict := impl.Conn{Proto: 6, A: farAway, APort: 7, B: 20, BPort: 85, Outer: 9, State: 2, Seen: 100}
	faults := []netFault{
		{impl.ErrForm, func(_ *impl.Filter, op *impl.FilterOp) { op.Time = 99 }},
		{impl.ErrRight, func(f *impl.Filter, op *impl.FilterOp) { op.Packet.Dst = 20 }},
		{impl.ErrState, func(_ *impl.Filter, op *impl.FilterOp) { op.Packet.Flags = 3 }},
		{impl.ErrNone, func(f *impl.Filter, _ *impl.FilterOp) { f.Forwards = f.Forwards[1:] }},
		{impl.ErrRight, func(f *impl.Filter, _ *impl.FilterOp) { f.Hosts[1].Groups = nil }},
		{impl.ErrConflict, func(f *impl.Filter, _ *impl.FilterOp) { f.Conns = append(f.Conns, conflict) }},
		{impl.ErrCount, func(f *impl.Filter, _ *impl.FilterOp) { full(f) }},
	}
	checkFaultOrder(t, "by a Forward", sampleFilter(), filterOp(100, -1, tcpPacket(farAway, 7, gate, 80, 1)), faults)
}

// roomyFilter has lists with room behind their ends, where 99 stands.
func roomyFilter(f impl.Filter) impl.Filter {
	f = copyFilter(f)
	f.Hosts = append(f.Hosts, impl.NetHost{Addr: 99})[:len(f.Hosts)]
	f.Groups = append(f.Groups, impl.NetGroup{Rules: []impl.NetRule{{Addr: 99}}})[:len(f.Groups)]
	f.Forwards = append(f.Forwards, impl.Forward{Addr: 99})[:len(f.Forwards)]
	f.Conns = append(f.Conns, impl.Conn{A: 99}, impl.Conn{A: 99})[:len(f.Conns)]
	for at, h := range f.Hosts {
		f.Hosts[at].Groups = append(h.Groups, 99)[:len(h.Groups)]
	}
	for at, g := range f.Groups {
		f.Groups[at].Rules = append(g.Rules, impl.NetRule{Addr: 99})[:len(g.Rules)]
	}
	return f
}

func checkFilterRoom(t *testing.T, what string, f impl.Filter) {
	t.Helper()
	checkNumber(t, what+": behind Hosts", f.Hosts[:len(f.Hosts)+1][len(f.Hosts)].Addr, 99)
	checkNumber(t, what+": behind Groups", f.Groups[:len(f.Groups)+1][len(f.Groups)].Rules[0].Addr, 99)
	checkNumber(t, what+": behind Forwards", f.Forwards[:len(f.Forwards)+1][len(f.Forwards)].Addr, 99)
	for _, c := range f.Conns[len(f.Conns) : len(f.Conns)+2] {
		checkEqual(t, what+": behind Conns", c, impl.Conn{A: 99})
	}
	for _, h := range f.Hosts {
		checkNumber(t, what+": behind a host's Groups", h.Groups[:len(h.Groups)+1][len(h.Groups)], 99)
	}
	for _, g := range f.Groups {
		checkNumber(t, what+": behind Rules", g.Rules[:len(g.Rules)+1][len(g.Rules)].Addr, 99)
	}
}

// spoilFilter writes into all lists of a filter, and behind their ends.
func spoilFilter(f impl.Filter) {
	for at, h := range f.Hosts {
		for n := range h.Groups {
			h.Groups[n] = 77
		}
		_ = append(h.Groups, 77)
		f.Hosts[at] = impl.NetHost{Addr: 77}
	}
	for at, g := range f.Groups {
		for n := range g.Rules {
			g.Rules[n] = impl.NetRule{Addr: 77}
		}
		_ = append(g.Rules, impl.NetRule{Addr: 77})
		f.Groups[at] = impl.NetGroup{}
	}
	for at := range f.Forwards {
		f.Forwards[at] = impl.Forward{Addr: 77}
	}
	for at := range f.Conns {
		f.Conns[at] = impl.Conn{A: 77}
	}
	_ = append(f.Hosts, impl.NetHost{Addr: 77})
	_ = append(f.Groups, impl.NetGroup{})
	_ = append(f.Forwards, impl.Forward{Addr: 77})
	_ = append(f.Conns, impl.Conn{A: 77}, impl.Conn{A: 77})
}

func TestAnswersOfRunFilterAreNewMemory(t *testing.T) {
	rng := rand.New(rand.NewSource(1703))
	for n := range 300 {
		f := roomyFilter(randomFilter(rng))
		before := copyFilter(f)
		var ops []impl.FilterOp
		for range rng.Intn(40) {
			ops = append(ops, randomNetOp(rng, f))
		}
		run := checkFilterRun(t, fmt.Sprintf("run %d", n), f, ops)
		impl.FilterFault(f)
		impl.MayPass(f, udpPacket(1, 1, 2, 2))
		checkFilterRoom(t, "behind a run", f)
		spoilFilter(run.Filter)
		checkFilter(t, "what was handed in", f, before)
		checkFilterRoom(t, "behind a write into the answer", f)
	}
}

// No list of an answer shares memory with another one of it: a write into one is seen in no other.
func TestListsOfAnAnswerOfRunFilterAreApart(t *testing.T) {
	shared := []int64{0, 1}
	rules := []impl.NetRule{anyRule(true), anyRule(false)}
	f := impl.Filter{Hosts: []impl.NetHost{{Addr: 1, Groups: shared}, {Addr: 2, Groups: shared}}, Groups: []impl.NetGroup{{Rules: rules}, {Rules: rules}}, Public: gate, First: 1024, Last: 1024}
	run := impl.RunFilter(f, []impl.FilterOp{filterOp(0, 0, udpPacket(1, 1, 2, 2))})
	run.Filter.Hosts[0].Groups[0] = 77
	run.Filter.Groups[0].Rules[0].Addr = 77
	checkNumbers(t, "the other host's Groups", run.Filter.Hosts[1].Groups, []int64{0, 1})
	checkEqual(t, "the other group's Rules", run.Filter.Groups[1].Rules[0], anyRule(true))
	checkNumbers(t, "what was handed in", shared, []int64{0, 1})
}

func TestRunFilterKeepsNothingForTheNextCall(t *testing.T) {
	ops := []impl.FilterOp{filterOp(100, 0, udpPacket(10, 1, farAway, 9)), filterOp(101, -1, tcpPacket(farAway, 1, gate, 80, 1)), filterOp(120, 0, tcpPacket(10, 1000, 20, 80, 8))}
	first := impl.RunFilter(busyFilter(), ops)
	impl.RunFilter(sampleFilter(), append(slices.Clone(ops), filterOp(5000, 0, pingPacket(10, 1, 20, 2))))
	again := impl.RunFilter(busyFilter(), ops)
	checkVerdicts(t, "once more", again.Outs, first.Outs)
	checkFilter(t, "once more", again.Filter, first.Filter)
}

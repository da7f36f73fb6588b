package tests

import (
	"fmt"
	"math"
	"math/rand"
	"testing"

	"loop.example/g00038/impl"
)

// checkLets holds a rule to what is told here, and what was handed in to what it was.
func checkLets(t *testing.T, what string, f impl.Filter, r impl.NetRule, p impl.Packet, in bool, want bool) {
	t.Helper()
	before := copyFilter(f)
	checkEqual(t, what, impl.RuleLets(f, r, p, in), want)
	checkFilter(t, what+": what was handed in", f, before)
}

// anyRule lets all of one direction.
func anyRule(in bool) impl.NetRule { return impl.NetRule{In: in, High: 65535, Group: -1} }

func TestRuleLetsByDirection(t *testing.T) {
	for _, p := range []impl.Packet{tcpPacket(10, 5, 20, 80, 1), udpPacket(20, 5, farAway, 0), pingPacket(farAway, 5, 20, 65535), udpPacket(0, 0, 0, 0)} {
		for n := range 4 {
			ruleIn, in := n&1 != 0, n&2 != 0
			checkLets(t, fmt.Sprintf("rule in %v, packet in %v", ruleIn, in), sampleFilter(), anyRule(ruleIn), p, in, ruleIn == in)
		}
	}
}

func TestRuleLetsByProto(t *testing.T) {
	for _, proto := range []int64{0, 1, 6, 17} {
		for _, p := range []impl.Packet{pingPacket(10, 5, 20, 80), tcpPacket(10, 5, 20, 80, 3), udpPacket(10, 5, 20, 80)} {
			for _, in := range []bool{true, false} {
				r := anyRule(in)
				r.Proto = proto
				checkLets(t, fmt.Sprintf("Proto %d of the rule, %d of the packet", proto, p.Proto), sampleFilter(), r, p, in, proto == 0 || proto == p.Proto)
			}
		}
	}
}

func TestRuleLetsByPort(t *testing.T) {
	for _, c := range []struct{ low, high, port int64 }{
		{80, 90, 79}, {80, 90, 80}, {80, 90, 81}, {80, 90, 89}, {80, 90, 90}, {80, 90, 91}, {80, 90, 0}, {80, 90, 65535},
		{80, 80, 79}, {80, 80, 80}, {80, 80, 81}, {0, 0, 0}, {0, 0, 1}, {65535, 65535, 65535}, {65535, 65535, 65534}, {0, 65535, 0}, {0, 65535, 65535},
		{90, 80, 80}, {90, 80, 85}, {90, 80, 90},
	} {
		for _, in := range []bool{true, false} {
			r := anyRule(in)
			r.Low, r.High = c.low, c.high
			what := fmt.Sprintf("%+v in %v", c, in)
			lets := c.low <= c.port && c.port <= c.high
			checkLets(t, what+" tcp", sampleFilter(), r, tcpPacket(10, 85, 20, c.port, 0), in, lets)
			checkLets(t, what+" udp", sampleFilter(), r, udpPacket(10, 85, 20, c.port), in, lets)
			checkLets(t, what+" ping", sampleFilter(), r, pingPacket(10, 85, 20, c.port), in, true)
			r.Proto = impl.ProtoPing
			checkLets(t, what+" of ping alone", sampleFilter(), r, pingPacket(10, 1, 20, c.port), in, true)
		}
	}
}

// Addresses that are unlike in one bit: of the first Bits bits it is refused, behind them it is not.
func TestRuleLetsByBits(t *testing.T) {
	for _, addr := range []int64{0, 1, eight, 0xA5A5A5A5, 1 << 31, lastWord} {
		for bits := range int64(33) {
			for _, in := range []bool{true, false} {
				r := anyRule(in)
				r.Addr, r.Bits = addr, bits
				send := func(other int64) impl.Packet {
					if in {
						return udpPacket(other, 1, 20, 2)
					}
					return udpPacket(20, 1, other, 2)
				}
				checkLets(t, fmt.Sprintf("%x, %d bits, itself", addr, bits), sampleFilter(), r, send(addr), in, true)
				for bit := range int64(32) {
					checkLets(t, fmt.Sprintf("%x, %d bits, unlike in bit %d", addr, bits, bit), sampleFilter(), r, send(addr^1<<(31-bit)), in, bit >= bits)
				}
			}
		}
	}
	known := anyRule(true)
	known.Addr, known.Bits = eight, 8
	checkLets(t, "the last of 8.0.0.0/8", sampleFilter(), known, udpPacket(eight|0xFFFFFF, 1, 20, 2), true, true)
	checkLets(t, "the first behind it", sampleFilter(), known, udpPacket(9<<24, 1, 20, 2), true, false)
	checkLets(t, "the last ahead of it", sampleFilter(), known, udpPacket(eight-1, 1, 20, 2), true, false)
	checkLets(t, "the other side is there, not this one", sampleFilter(), known, udpPacket(20, 1, eight, 2), true, false)
}

func TestRuleLetsByGroup(t *testing.T) {
	groups := map[int64][]int64{10: {0, 2}, 20: {1, 3}, 30: nil, 40: {0, 1, 2, 3}, farAway: nil, gate: nil, 0: nil}
	for other, has := range groups {
		for group := range int64(6) {
			group--
			lets := group == -1
			for _, one := range has {
				lets = lets || one == group
			}
			what := fmt.Sprintf("group %d of %d", group, other)
			in, out := anyRule(true), anyRule(false)
			in.Group, out.Group = group, group
			checkLets(t, what+", in", sampleFilter(), in, tcpPacket(other, 1, 20, 80, 1), true, lets)
			checkLets(t, what+", out", sampleFilter(), out, tcpPacket(20, 1, other, 80, 1), false, lets)
		}
	}
}

func TestRuleLetsAllAtOnce(t *testing.T) {
	r := impl.NetRule{In: true, Proto: 6, Addr: 10, Bits: 32, Low: 80, High: 90, Group: 2}
	checkLets(t, "all holds", sampleFilter(), r, tcpPacket(10, 1, 20, 80, 15), true, true)
	checkLets(t, "out", sampleFilter(), r, tcpPacket(10, 1, 20, 80, 15), false, false)
	checkLets(t, "another Proto", sampleFilter(), r, udpPacket(10, 1, 20, 80), true, false)
	checkLets(t, "another Src of this group", sampleFilter(), r, tcpPacket(40, 1, 20, 80, 1), true, false)
	checkLets(t, "another port", sampleFilter(), r, tcpPacket(10, 80, 20, 91, 1), true, false)
	without := changedFilter(sampleFilter(), func(f *impl.Filter) { f.Hosts[0].Groups = []int64{0, 3} })
	checkLets(t, "without this group", without, r, tcpPacket(10, 1, 20, 80, 1), true, false)
	gone := changedFilter(sampleFilter(), func(f *impl.Filter) { f.Hosts[0].Addr = 11 })
	checkLets(t, "no host", gone, r, tcpPacket(10, 1, 20, 80, 1), true, false)
}

// packetBounds are for a packet of ProtoTcp.
func packetBounds() map[string]map[int64]bool {
	port := map[int64]bool{-1: false, 0: true, 1: true, 65535: true, 65536: false}
	addr := map[int64]bool{-1: false, 0: true, lastWord: true, lastWord + 1: false}
	return map[string]map[int64]bool{
		"Proto": withEnds(map[int64]bool{-1: false, 0: false, 1: false, 2: false, 5: false, 6: true, 7: false, 16: false, 17: false, 18: false}),
		"Src":   withEnds(addr), "Dst": withEnds(addr), "SrcPort": withEnds(port), "DstPort": withEnds(port),
		"Flags": withEnds(map[int64]bool{-1: false, 0: true, 1: true, 8: true, 14: true, 15: true, 16: false, 17: false}),
	}
}

func packetField(p *impl.Packet, field string) *int64 {
	return map[string]*int64{"Proto": &p.Proto, "Src": &p.Src, "SrcPort": &p.SrcPort, "Dst": &p.Dst, "DstPort": &p.DstPort, "Flags": &p.Flags}[field]
}

func TestRuleLetsAndMayPassRefusePacketsThatAreNone(t *testing.T) {
	for field, bounds := range packetBounds() {
		for n, right := range bounds {
			p := tcpPacket(farAway, 5, farAway+1, 80, 1)
			*packetField(&p, field) = n
			what := fmt.Sprintf("%s %d", field, n)
			checkLets(t, what, sampleFilter(), anyRule(true), p, true, right)
			checkLets(t, what, sampleFilter(), anyRule(false), p, false, right)
			checkEqual(t, what, impl.MayPass(sampleFilter(), p), right)
		}
	}
	for _, p := range []impl.Packet{udpPacket(farAway, 5, farAway+1, 80), pingPacket(farAway, 5, farAway+1, 80)} {
		for flags := range int64(17) {
			p.Flags = flags
			what := fmt.Sprintf("Proto %d with flags %d", p.Proto, flags)
			checkLets(t, what, sampleFilter(), anyRule(true), p, true, flags == 0)
			checkEqual(t, what, impl.MayPass(sampleFilter(), p), flags == 0)
		}
	}
}

// A rule that is handed in need be none of the filter's own, but right beside its groups.
func TestRuleLetsRefusesWrongRules(t *testing.T) {
	for field, bounds := range ruleBounds() {
		for n, right := range bounds {
			r := impl.NetRule{In: true, High: 65535, Group: -1}
			*ruleField(&r, field) = n
			what := fmt.Sprintf("%s %d", field, n)
			for _, p := range []impl.Packet{tcpPacket(10, 1, 20, 80, 1), pingPacket(10, 1, 20, 80), udpPacket(farAway, 1, 20, 0)} {
				checkLets(t, what, sampleFilter(), r, p, true, right && plainLets(sampleFilter(), r, p, true))
			}
		}
	}
	few := impl.Filter{Public: gate, First: 1024, Last: 1024}
	group := anyRule(true)
	group.Group = 0
	checkLets(t, "a group where there is none", few, group, udpPacket(1, 1, 2, 2), true, false)
	checkLets(t, "no group where there is none", few, anyRule(true), udpPacket(1, 1, 2, 2), true, true)
}

func TestRuleLetsAndMayPassRefuseWrongFilters(t *testing.T) {
	for what, change := range map[string]func(f *impl.Filter){
		"Public 0":       func(f *impl.Filter) { f.Public = 0 },
		"a wrong conn":   func(f *impl.Filter) { f.Conns[6].Outer = 1 },
		"two alike":      func(f *impl.Filter) { f.Conns[6] = f.Conns[0] },
		"a wrong group":  func(f *impl.Filter) { f.Hosts[3].Groups = []int64{3, 0} },
		"a wrong rule":   func(f *impl.Filter) { f.Groups[4].Rules = []impl.NetRule{{Bits: 33, Group: -1}} },
		"Time below 0":   func(f *impl.Filter) { f.Time = -1 },
		"too many hosts": func(f *impl.Filter) { f.Hosts = manyHosts(13) },
	} {
		f := changedFilter(busyFilter(), change)
		checkLets(t, what, f, anyRule(true), udpPacket(7, 1, 8, 1), true, false)
		checkEqual(t, what, impl.MayPass(f, udpPacket(7, 1, 8, 1)), false)
	}
	checkLets(t, "nothing wrong", busyFilter(), anyRule(true), udpPacket(7, 1, 8, 1), true, true)
	checkEqual(t, "nothing wrong", impl.MayPass(busyFilter(), udpPacket(7, 1, 8, 1)), true)
	checkLets(t, "nothing at all", impl.Filter{}, impl.NetRule{}, impl.Packet{}, false, false)
	checkEqual(t, "nothing at all", impl.MayPass(impl.Filter{}, impl.Packet{}), false)
}

func TestMayPassOfTheSample(t *testing.T) {
	for _, c := range []struct {
		what string
		p    impl.Packet
		may  bool
	}{
		{"out by group 0, in by the first rule of group 1", tcpPacket(10, 5, 20, 80, 1), true},
		{"at its High", tcpPacket(10, 5, 20, 90, 1), true},
		{"behind its High", tcpPacket(10, 5, 20, 91, 1), false},
		{"ahead of its Low", tcpPacket(10, 5, 20, 79, 1), false},
		{"with flags", tcpPacket(10, 5, 20, 80, 14), true},
		{"ping in by the second rule", pingPacket(10, 5, 20, 65535), true},
		{"udp, in from elsewhere alone", udpPacket(10, 5, 20, 80), false},
		{"in by a group of the other side", udpPacket(10, 5, 40, 9), true},
		{"the other way", udpPacket(40, 5, 10, 9), true},
		{"in by the second of its groups, from one that has another group", tcpPacket(20, 5, 40, 80, 1), false},
		{"not out", tcpPacket(20, 5, 10, 80, 1), false},
		{"out by the last rule", tcpPacket(20, 5, farAway, 25, 1), true},
		{"out to another port", tcpPacket(20, 5, farAway, 26, 1), false},
		{"out to another address", tcpPacket(20, 5, farAway+1, 25, 1), false},
		{"to a host without groups", tcpPacket(10, 5, 30, 80, 1), false},
		{"from a host without groups", tcpPacket(30, 5, 20, 80, 1), false},
		{"from there to outside", udpPacket(30, 5, farAway, 80), false},
		{"from outside to it", udpPacket(farAway, 5, 30, 80), false},
		{"to outside", udpPacket(10, 0, farAway, 0), true},
		{"to Public", udpPacket(10, 0, gate, 0), true},
		{"from outside, in by a rule", tcpPacket(farAway, 5, 20, 85, 1), true},
		{"from outside, in by no rule", tcpPacket(farAway, 5, 20, 25, 1), false},
		{"from outside, in by its address", udpPacket(eight+77, 5, 20, 25), true},
		{"from outside, another address", udpPacket(farAway, 5, 20, 25), false},
		{"from outside, in by a group alone", udpPacket(farAway, 5, 10, 25), false},
		{"from outside to outside", udpPacket(farAway, 5, farAway+1, 25), true},
		{"from Public", tcpPacket(gate, 5, 20, 80, 1), true},
		{"a host to itself, out and in", udpPacket(10, 5, 10, 5), true},
		{"a host to itself, not out", tcpPacket(20, 5, 20, 80, 1), false},
		{"a host without groups to itself", udpPacket(30, 5, 30, 5), false},
	} {
		for _, f := range []impl.Filter{sampleFilter(), busyFilter()} {
			before := copyFilter(f)
			checkEqual(t, c.what, impl.MayPass(f, c.p), c.may)
			checkFilter(t, c.what+": what was handed in", f, before)
		}
	}
}

// Whichever of its groups and rules lets, first or last, one is enough.
func TestMayPassByAnyGroupAndRule(t *testing.T) {
	nothing := impl.NetRule{In: true, Proto: 6, Low: 1, High: 0, Group: -1}
	for group := range 5 {
		for rule := range 20 {
			f := impl.Filter{Hosts: []impl.NetHost{{Addr: 1, Groups: inSteps(0, 1, 5)}}, Groups: make([]impl.NetGroup, 5), Public: gate, First: 1024, Last: 1024}
			for at := range f.Groups {
				for range 20 {
					f.Groups[at].Rules = append(f.Groups[at].Rules, nothing)
				}
			}
			checkEqual(t, "no rule", impl.MayPass(f, udpPacket(7, 1, 1, 1)), false)
			f.Groups[group].Rules[rule] = anyRule(true)
			checkEqual(t, fmt.Sprintf("rule %d of group %d", rule, group), impl.MayPass(f, udpPacket(7, 1, 1, 1)), true)
			checkEqual(t, "out", impl.MayPass(f, udpPacket(1, 1, 7, 1)), false)
			f.Hosts[0].Groups = append(inSteps(0, 1, group), inSteps(int64(group)+1, 1, 4-group)...)
			checkEqual(t, "without this group", impl.MayPass(f, udpPacket(7, 1, 1, 1)), false)
		}
	}
}

func TestRuleLetsAndMayPassOfRandomFilters(t *testing.T) {
	rng := rand.New(rand.NewSource(1702))
	lets, may := map[bool]int{}, map[bool]int{}
	for n := range 4000 {
		f := randomFilter(rng)
		for range 5 {
			p := randomNetOp(rng, f).Packet
			in := rng.Intn(2) == 0
			r := randomRule(rng, f)
			if rng.Intn(20) == 0 {
				r.Group = oneOf(rng, -2, -1, 0, 5, math.MaxInt64)
			}
			want := plainRuleRight(f, r) && plainPacketRight(p) && plainLets(f, r, p, in)
			checkLets(t, fmt.Sprintf("filter %d: %+v of %+v", n, r, p), f, r, p, in, want)
			passes := plainPacketRight(p) && plainMayPass(f, p)
			checkEqual(t, fmt.Sprintf("filter %d: %+v of %+v", n, p, f), impl.MayPass(f, p), passes)
			lets[want]++
			may[passes]++
		}
		if t.Failed() {
			return
		}
	}
	if min(lets[true], lets[false], may[true], may[false]) < 1000 {
		t.Errorf("lets %v, may %v", lets, may)
	}
}

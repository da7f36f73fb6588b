package tests

import (
	"fmt"
	"math"
	"math/rand"
	"slices"
	"testing"

	"loop.example/g00038/impl"
)

const lastWord = 1<<32 - 1

type filterCase struct {
	what   string
	right  bool
	change func(f *impl.Filter)
}

// checkFilterCases holds all calls to what is said of the busy filter when it was changed.
func checkFilterCases(t *testing.T, cases []filterCase) {
	t.Helper()
	for _, c := range cases {
		f := changedFilter(busyFilter(), c.change)
		before := copyFilter(f)
		checkNumber(t, c.what+": FilterFault", impl.FilterFault(f), faultCode(c.right))
		checkEqual(t, c.what+": said once more", plainFilterRight(f), c.right)
		checkFilter(t, c.what+": what was handed in", f, before)
		got := checkFilterRun(t, c.what, f, []impl.FilterOp{filterOp(f.Time, beyond, udpPacket(eight+1, 7, f.Public, 53)), {}})
		checkNumber(t, c.what+": RunFilter", got.Code, faultCode(c.right))
		if !c.right {
			checkEqual(t, c.what+": MayPass", impl.MayPass(f, udpPacket(1, 1, 2, 2)), false)
			checkEqual(t, c.what+": RuleLets", impl.RuleLets(f, impl.NetRule{In: true, High: 65535, Group: -1}, udpPacket(1, 1, 2, 2), true), false)
		}
	}
}

func boundCases(what string, bounds map[int64]bool, put func(f *impl.Filter, n int64)) []filterCase {
	var cases []filterCase
	for n, right := range bounds {
		cases = append(cases, filterCase{fmt.Sprintf("%s %d", what, n), right, func(f *impl.Filter) { put(f, n) }})
	}
	return cases
}

// withEnds adds the numbers that are never right.
func withEnds(bounds map[int64]bool) map[int64]bool {
	bounds[math.MaxInt64], bounds[math.MinInt64] = false, false
	return bounds
}

func manyHosts(count int64) []impl.NetHost {
	var hosts []impl.NetHost
	for n := range count {
		hosts = append(hosts, impl.NetHost{Addr: 100 + n})
	}
	return hosts
}

// bare leaves nothing that speaks of hosts.
func bare(f *impl.Filter) { f.Forwards, f.Conns = nil, nil }

func TestFilterFaultOfNothingAndTheLeast(t *testing.T) {
	checkNumber(t, "nothing", impl.FilterFault(impl.Filter{}), impl.ErrForm)
	least := impl.Filter{Public: 1, First: 1024, Last: 1024}
	checkNumber(t, "the least", impl.FilterFault(least), impl.OK)
	least.Hosts, least.Groups, least.Forwards, least.Conns = []impl.NetHost{}, []impl.NetGroup{}, []impl.Forward{}, []impl.Conn{}
	checkNumber(t, "empty lists", impl.FilterFault(least), impl.OK)
	checkNumber(t, "the sample", impl.FilterFault(sampleFilter()), impl.OK)
	checkNumber(t, "the busy one", impl.FilterFault(busyFilter()), impl.OK)
}

func TestFilterFaultOfHosts(t *testing.T) {
	cases := boundCases("hosts:", map[int64]bool{0: true, 1: true, 11: true, 12: true, 13: false, 1000: false, 1001: false}, func(f *impl.Filter, n int64) {
		bare(f)
		f.Hosts = manyHosts(n)
	})
	addrs := withEnds(map[int64]bool{0: false, 1: true, gate - 1: true, gate: false, gate + 1: true, 20: false, 40: false, lastWord - 1: true, lastWord: true, lastWord + 1: false, -1: false})
	for _, at := range []int{0, 2} {
		cases = append(cases, boundCases(fmt.Sprintf("host %d has Addr", at), addrs, func(f *impl.Filter, n int64) {
			bare(f)
			f.Hosts[at].Addr = n
		})...)
	}
	for _, pair := range [][2]int{{0, 3}, {1, 2}, {2, 3}} {
		same := func(f *impl.Filter) {
			bare(f)
			f.Hosts[pair[1]].Addr = f.Hosts[pair[0]].Addr
		}
		cases = append(cases, filterCase{fmt.Sprintf("hosts %v of one Addr", pair), false, same})
	}
	publics := withEnds(map[int64]bool{0: false, 1: true, 9: true, 10: false, 40: false, lastWord: true, lastWord + 1: false, -1: false})
	cases = append(cases, boundCases("Public", publics, func(f *impl.Filter, n int64) { f.Public = n })...)
	checkFilterCases(t, cases)
}

func TestFilterFaultOfGroupsOfHosts(t *testing.T) {
	var cases []filterCase
	for what, c := range map[string]struct {
		right  bool
		groups []int64
	}{
		"none": {true, nil}, "empty": {true, []int64{}}, "the first": {true, []int64{0}}, "the last": {true, []int64{5}}, "both ends": {true, []int64{0, 5}},
		"4 of them": {true, inSteps(0, 1, 4)}, "5 of them": {true, inSteps(0, 1, 5)}, "the last 5": {true, inSteps(1, 1, 5)}, "6 of them": {false, inSteps(0, 1, 6)},
		"1001 of them": {false, inSteps(0, 1, 1001)}, "behind all": {false, []int64{6}}, "below all": {false, []int64{-1}}, "one below ahead": {false, []int64{-1, 0}},
		"one behind at the end": {false, []int64{0, 6}}, "falling": {false, []int64{1, 0}}, "falling at the end": {false, []int64{0, 2, 1}}, "twice": {false, []int64{2, 2}},
		"twice at the end": {false, []int64{0, 1, 1}}, "far behind": {false, []int64{math.MaxInt64}}, "far below": {false, []int64{math.MinInt64}},
	} {
		for _, at := range []int{0, 2, 3} {
			cases = append(cases, filterCase{fmt.Sprintf("groups of host %d: %s", at, what), c.right, func(f *impl.Filter) {
				f.Groups = append(f.Groups, impl.NetGroup{})
				f.Hosts[at].Groups = c.groups
			}})
		}
	}
	checkFilterCases(t, cases)
}

func TestFilterFaultOfHowManyGroupsAndRules(t *testing.T) {
	cases := boundCases("groups:", map[int64]bool{5: true, 11: true, 12: true, 13: false, 1001: false, 4: true, 3: false}, func(f *impl.Filter, n int64) {
		groups := make([]impl.NetGroup, n)
		copy(groups, f.Groups)
		f.Groups = groups
	})
	for _, at := range []int{0, 4} {
		cases = append(cases, boundCases(fmt.Sprintf("rules of group %d:", at), map[int64]bool{0: true, 1: true, 19: true, 20: true, 21: false, 1001: false}, func(f *impl.Filter, n int64) {
			f.Groups[at].Rules = slices.Repeat([]impl.NetRule{{Group: -1}}, int(n))
		})...)
	}
	cases = append(cases, filterCase{"no groups", true, func(f *impl.Filter) {
		f.Groups = nil
		for at := range f.Hosts {
			f.Hosts[at].Groups = nil
		}
	}})
	checkFilterCases(t, cases)
}

// ruleBounds are for a filter of 5 groups.
func ruleBounds() map[string]map[int64]bool {
	port := map[int64]bool{-1: false, 0: true, 1: true, 65534: true, 65535: true, 65536: false}
	return map[string]map[int64]bool{
		"Proto": withEnds(map[int64]bool{-1: false, 0: true, 1: true, 2: false, 5: false, 6: true, 7: false, 16: false, 17: true, 18: false}),
		"Addr":  withEnds(map[int64]bool{-1: false, 0: true, 1: true, gate: true, 20: true, lastWord: true, lastWord + 1: false}),
		"Bits":  withEnds(map[int64]bool{-1: false, 0: true, 1: true, 31: true, 32: true, 33: false, 64: false}),
		"Low":   withEnds(port),
		"High":  withEnds(port),
		"Group": withEnds(map[int64]bool{-2: false, -1: true, 0: true, 4: true, 5: false, 6: false}),
	}
}

func ruleField(r *impl.NetRule, field string) *int64 {
	return map[string]*int64{"Proto": &r.Proto, "Addr": &r.Addr, "Bits": &r.Bits, "Low": &r.Low, "High": &r.High, "Group": &r.Group}[field]
}

func TestFilterFaultOfRules(t *testing.T) {
	var cases []filterCase
	for field, bounds := range ruleBounds() {
		for _, place := range [][2]int{{0, 0}, {1, 1}, {3, 0}} {
			cases = append(cases, boundCases(fmt.Sprintf("rule %v: %s", place, field), bounds, func(f *impl.Filter, n int64) {
				*ruleField(&f.Groups[place[0]].Rules[place[1]], field) = n
			})...)
		}
	}
	cases = append(cases, filterCase{"Low above High", true, func(f *impl.Filter) { f.Groups[0].Rules[0].Low, f.Groups[0].Rules[0].High = 9, 8 }})
	checkFilterCases(t, cases)
}

func manyForwards(count int64) []impl.Forward {
	var forwards []impl.Forward
	for n := range count {
		forwards = append(forwards, impl.Forward{Proto: 17, Port: 1 + n, Addr: 10, ToPort: 1})
	}
	return forwards
}

func forward(proto int64, port int64, addr int64, toPort int64) impl.Forward {
	return impl.Forward{Proto: proto, Port: port, Addr: addr, ToPort: toPort}
}

func TestFilterFaultOfForwards(t *testing.T) {
	cases := boundCases("forwards:", map[int64]bool{0: true, 1: true, 9: true, 10: true, 11: false, 1001: false}, func(f *impl.Filter, n int64) { f.Forwards = manyForwards(n) })
	port := withEnds(map[int64]bool{-1: false, 0: false, 1: true, 65535: true, 65536: false})
	for _, at := range []int{0, 2, 6} {
		who := fmt.Sprintf("forward %d: ", at)
		cases = append(cases, boundCases(who+"Port", port, func(f *impl.Filter, n int64) { f.Forwards[at].Port = n })...)
		cases = append(cases, boundCases(who+"ToPort", port, func(f *impl.Filter, n int64) { f.Forwards[at].ToPort = n })...)
		cases = append(cases, boundCases(who+"Proto, Port 9", withEnds(map[int64]bool{-1: false, 0: false, 1: true, 2: false, 6: true, 7: false, 17: true, 18: false}), func(f *impl.Filter, n int64) {
			f.Forwards[at].Proto, f.Forwards[at].Port = n, 9
		})...)
		cases = append(cases, boundCases(who+"Addr", withEnds(map[int64]bool{0: false, 10: true, 20: true, 30: true, 40: true, 11: false, gate: false, farAway: false, -1: false}), func(f *impl.Filter, n int64) { f.Forwards[at].Addr = n })...)
	}
	for _, pair := range [][2]int{{0, 1}, {0, 6}, {5, 6}} {
		same := func(f *impl.Filter) {
			f.Forwards[pair[1]].Proto, f.Forwards[pair[1]].Port = f.Forwards[pair[0]].Proto, f.Forwards[pair[0]].Port
		}
		cases = append(cases, filterCase{fmt.Sprintf("forwards %v of one Proto and Port", pair), false, same})
	}
	cases = append(cases,
		filterCase{"one Port, two Protos", true, func(f *impl.Filter) {
			f.Forwards = []impl.Forward{forward(6, 9, 10, 9), forward(17, 9, 10, 9), forward(1, 9, 10, 9)}
		}},
		filterCase{"one Proto, two Ports, one place", true, func(f *impl.Filter) { f.Forwards = []impl.Forward{forward(6, 9, 10, 9), forward(6, 8, 10, 9)} }},
		filterCase{"one Proto and Port to two hosts", false, func(f *impl.Filter) { f.Forwards = []impl.Forward{forward(6, 9, 10, 9), forward(6, 9, 20, 9)} }},
	)
	checkFilterCases(t, cases)
}

func TestFilterFaultOfFirstAndLast(t *testing.T) {
	cases := boundCases("First", withEnds(map[int64]bool{0: false, 1023: false, 1024: true, 2002: true, 2003: true, 2004: false, 65535: false, 65536: false, -1: false}), func(f *impl.Filter, n int64) { f.First = n })
	cases = append(cases, boundCases("Last", withEnds(map[int64]bool{1023: false, 1024: false, 1999: false, 2000: true, 65534: true, 65535: true, 65536: false, -1: false}), func(f *impl.Filter, n int64) { f.Last = n })...)
	both := withEnds(map[int64]bool{1: false, 1023: false, 1024: true, 65535: true, 65536: false})
	cases = append(cases, boundCases("both", both, func(f *impl.Filter, n int64) { f.First, f.Last = n, n })...)
	cases = append(cases, filterCase{"all there are", true, func(f *impl.Filter) { f.First, f.Last = 1024, 65535 }})
	checkFilterCases(t, cases)
}

func TestFilterFaultOfTimes(t *testing.T) {
	cases := boundCases("Time without Conns", withEnds(map[int64]bool{-1: false, 0: true, 1: true, 1<<40 - 1: true, 1 << 40: true, 1<<40 + 1: false}), func(f *impl.Filter, n int64) { f.Time, f.Conns = n, nil })
	cases = append(cases, boundCases("Time", map[int64]bool{99: false, 100: true, 101: true, 1 << 40: true}, func(f *impl.Filter, n int64) { f.Time = n })...)
	checkFilterCases(t, cases)
}

// manyConns are between two hosts, or from one to outside.
func manyConns(count int64, b int64) []impl.Conn {
	var conns []impl.Conn
	for n := range count {
		c := impl.Conn{Proto: 17, A: 10, APort: n, B: b, BPort: 9, State: impl.ConnOpen}
		if b == farAway {
			c.Outer = 3000 + n
		}
		conns = append(conns, c)
	}
	return conns
}

func TestFilterFaultOfHowManyConns(t *testing.T) {
	var cases []filterCase
	for _, b := range []int64{20, farAway} {
		cases = append(cases, boundCases(fmt.Sprintf("conns to %d:", b), map[int64]bool{0: true, 1: true, 23: true, 24: true, 25: false, 1001: false}, func(f *impl.Filter, n int64) { f.Conns = manyConns(n, b) })...)
	}
	checkFilterCases(t, cases)
}

// connCases puts a number into a field of each of the busy filter's Conns.
func connCases(what string, bounds map[int64]bool, field func(c *impl.Conn) *int64) []filterCase {
	var cases []filterCase
	for at := range busyFilter().Conns {
		cases = append(cases, boundCases(fmt.Sprintf("conn %d: %s", at, what), bounds, func(f *impl.Filter, n int64) { *field(&f.Conns[at]) = n })...)
	}
	return cases
}

func TestFilterFaultOfFieldsOfConns(t *testing.T) {
	port := withEnds(map[int64]bool{-1: false, 0: true, 1: true, 65534: true, 65535: true, 65536: false})
	cases := connCases("APort", port, func(c *impl.Conn) *int64 { return &c.APort })
	cases = append(cases, connCases("BPort", port, func(c *impl.Conn) *int64 { return &c.BPort })...)
	cases = append(cases, connCases("Seen", withEnds(map[int64]bool{-1: false, 0: true, 1: true, 99: true, 100: true, 101: false}), func(c *impl.Conn) *int64 { return &c.Seen })...)
	cases = append(cases, connCases("Proto", withEnds(map[int64]bool{-1: false, 0: false, 2: false, 5: false, 7: false, 18: false}), func(c *impl.Conn) *int64 { return &c.Proto })...)
	for at, was := range busyFilter().Conns {
		isTcp := was.Proto == 6
		states := withEnds(map[int64]bool{-1: false, 0: false, 1: isTcp, 2: true, 3: isTcp, 4: false})
		cases = append(cases, boundCases(fmt.Sprintf("conn %d: State", at), states, func(f *impl.Filter, n int64) { f.Conns[at].State = n })...)
		for _, proto := range []int64{1, 6, 17} {
			right := proto == 6 || was.State == impl.ConnOpen
			cases = append(cases, filterCase{fmt.Sprintf("conn %d alone: Proto %d", at, proto), right, func(f *impl.Filter) {
				f.Conns = []impl.Conn{was}
				f.Conns[0].Proto = proto
			}})
		}
		for n := range 4 {
			fins := func(f *impl.Filter) { f.Conns[at].FinA, f.Conns[at].FinB = n&1 != 0, n&2 != 0 }
			cases = append(cases, filterCase{fmt.Sprintf("conn %d: fins %d", at, n), true, fins})
		}
	}
	checkFilterCases(t, cases)
}

func TestFilterFaultOfSidesOfConns(t *testing.T) {
	var cases []filterCase
	addrs := []int64{0, 1, 10, 20, 30, 40, gate - 1, gate, gate + 1, farAway, lastWord, lastWord + 1, -1, math.MaxInt64, math.MinInt64}
	outers := []int64{-1, 0, 1, 2000, 65535, 65536, math.MaxInt64, math.MinInt64}
	isHost := func(addr int64) bool { return addr%10 == 0 && among(addr, 10, 40) }
	for _, a := range addrs {
		for _, b := range addrs {
			for _, outer := range outers {
				right := plainWord(a) && plainWord(b) && a != gate && b != gate && (isHost(a) || isHost(b))
				if isHost(a) && isHost(b) {
					right = right && outer == 0
				} else {
					right = right && among(outer, 1, 65535)
				}
				cases = append(cases, filterCase{fmt.Sprintf("from %d to %d by %d", a, b, outer), right, func(f *impl.Filter) {
					f.Conns = []impl.Conn{{Proto: 6, A: a, APort: 5, B: b, BPort: 5, Outer: outer, State: 2}}
				}})
			}
		}
	}
	checkFilterCases(t, cases)
}

// pairCase is a second connection beside one of Proto 6.
func pairCase(what string, right bool, first impl.Conn, second impl.Conn) []filterCase {
	put := func(conns ...impl.Conn) func(f *impl.Filter) {
		return func(f *impl.Filter) { f.Conns = conns }
	}
	between := impl.Conn{Proto: 17, A: 10, APort: 1, B: 30, BPort: 1, State: 2}
	return []filterCase{
		{what, right, put(first, second)},
		{what + ", the other one first", right, put(second, first)},
		{what + ", with one between", right, put(first, between, second)},
	}
}

func TestFilterFaultOfTwoConns(t *testing.T) {
	conn := func(proto int64, a int64, aPort int64, b int64, bPort int64, outer int64) impl.Conn {
		return impl.Conn{Proto: proto, A: a, APort: aPort, B: b, BPort: bPort, Outer: outer, State: 2}
	}
	inside, out, in, self := conn(6, 10, 1, 20, 2, 0), conn(6, 10, 1, farAway, 2, 2000), conn(6, farAway, 1, 10, 2, 2000), conn(6, 10, 1, 10, 2, 0)
	seen := inside
	seen.State, seen.FinA, seen.Seen = 1, true, 9
	var cases []filterCase
	for _, c := range []struct {
		what          string
		right         bool
		first, second impl.Conn
	}{
		{"the same", false, inside, inside},
		{"the same sides, else unlike", false, inside, seen},
		{"the other way", false, inside, conn(6, 20, 2, 10, 1, 0)},
		{"of another Proto", true, inside, conn(17, 10, 1, 20, 2, 0)},
		{"the other way of another Proto", true, inside, conn(1, 20, 2, 10, 1, 0)},
		{"addresses turned, not ports", true, inside, conn(6, 20, 1, 10, 2, 0)},
		{"ports turned, not addresses", true, inside, conn(6, 10, 2, 20, 1, 0)},
		{"another APort", true, inside, conn(6, 10, 3, 20, 2, 0)},
		{"another BPort", true, inside, conn(6, 10, 1, 20, 3, 0)},
		{"another A", true, inside, conn(6, 40, 1, 20, 2, 0)},
		{"another B", true, inside, conn(6, 10, 1, 40, 2, 0)},
		{"a host with itself, the other way", false, self, conn(6, 10, 2, 10, 1, 0)},
		{"a host with itself, another port", true, self, conn(6, 10, 2, 10, 3, 0)},
		{"a host with itself at one port, and at another", true, conn(6, 10, 1, 10, 1, 0), conn(6, 10, 2, 10, 2, 0)},
		{"a host with itself at one port, twice", false, conn(6, 10, 1, 10, 1, 0), conn(6, 10, 1, 10, 1, 0)},
		{"to outside, the same sides by another Outer", false, out, conn(6, 10, 1, farAway, 2, 2001)},
		{"to outside and from there, the same sides by another Outer", false, out, conn(6, farAway, 2, 10, 1, 2001)},
		{"to outside, from another port by the same Outer", false, out, conn(6, 10, 9, farAway, 2, 2000)},
		{"to outside, from another host by the same Outer", false, out, conn(6, 20, 1, farAway, 2, 2000)},
		{"to outside, the same Outer to another port", true, out, conn(6, 20, 1, farAway, 3, 2000)},
		{"to outside, the same Outer to another address", true, out, conn(6, 20, 1, farAway+1, 2, 2000)},
		{"to outside, from another port by another Outer", true, out, conn(6, 10, 9, farAway, 2, 2001)},
		{"to outside, the same Outer of another Proto", true, out, conn(17, 20, 1, farAway, 2, 2000)},
		{"to outside and from there, the same side there and Outer", false, out, conn(6, farAway, 2, 20, 7, 2000)},
		{"to outside and from there, another port there", true, out, conn(6, farAway, 1, 20, 7, 2000)},
		{"from outside, to another port by the same Outer", false, in, conn(6, farAway, 1, 10, 9, 2000)},
		{"from outside, to another host by the same Outer", false, in, conn(6, farAway, 1, 20, 2, 2000)},
		{"from outside, to another host by another Outer", true, in, conn(6, farAway, 1, 20, 2, 2001)},
		{"from outside, the same sides by another Outer", false, in, conn(6, farAway, 1, 10, 2, 2001)},
		{"from outside, from another port by the same Outer", true, in, conn(6, farAway, 2, 20, 2, 2000)},
		{"from outside, the same Outer of another Proto", true, in, conn(1, farAway, 1, 20, 2, 2000)},
		{"Outer 0 of both", true, inside, conn(6, 30, 1, 20, 2, 0)},
	} {
		cases = append(cases, pairCase(c.what, c.right, c.first, c.second)...)
	}
	checkFilterCases(t, cases)
}

// netFields are those of one thing of each kind in a filter.
func netFields(rng *rand.Rand, f *impl.Filter) []*int64 {
	fields := []*int64{&f.Public, &f.First, &f.Last, &f.Time}
	if len(f.Hosts) > 0 {
		h := &f.Hosts[rng.Intn(len(f.Hosts))]
		fields = append(fields, &h.Addr)
		for at := range h.Groups {
			fields = append(fields, &h.Groups[at])
		}
	}
	if len(f.Groups) > 0 && len(f.Groups[0].Rules) > 0 {
		r := &f.Groups[0].Rules[rng.Intn(len(f.Groups[0].Rules))]
		fields = append(fields, &r.Proto, &r.Addr, &r.Bits, &r.Low, &r.High, &r.Group)
	}
	if len(f.Forwards) > 0 {
		w := &f.Forwards[rng.Intn(len(f.Forwards))]
		fields = append(fields, &w.Proto, &w.Port, &w.Addr, &w.ToPort)
	}
	if len(f.Conns) > 0 {
		c := &f.Conns[rng.Intn(len(f.Conns))]
		fields = append(fields, &c.Proto, &c.A, &c.APort, &c.B, &c.BPort, &c.Outer, &c.State, &c.Seen)
	}
	return fields
}

func TestFilterFaultOfRandomFilters(t *testing.T) {
	rng := rand.New(rand.NewSource(1701))
	wrong := 0
	for n := range 6000 {
		f := randomFilter(rng)
		checkNumber(t, fmt.Sprintf("filter %d: %+v", n, f), impl.FilterFault(f), impl.OK)
		fields := netFields(rng, &f)
		*fields[rng.Intn(len(fields))] = oneOf(rng, math.MinInt64, -2, -1, 0, 1, 2, 3, 6, 7, 17, gate, 32, 33, 80, 1023, 1024, 2000, 2001, 65535, 65536, lastWord, lastWord+1, 1<<40, 1<<40+1, math.MaxInt64)
		right := plainFilterRight(f)
		checkNumber(t, fmt.Sprintf("filter %d: %+v", n, f), impl.FilterFault(f), faultCode(right))
		if !right {
			wrong++
		}
		if t.Failed() {
			return
		}
	}
	if !among(int64(wrong), 1000, 5000) {
		t.Errorf("%d of 6000 were wrong", wrong)
	}
}

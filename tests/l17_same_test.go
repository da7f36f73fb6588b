package tests

import (
	"fmt"
	"math/rand"
	"slices"
	"testing"

	"loop.example/g00038/impl"
)

// begunBy is the connection that one op began, if it did.
func begunBy(f impl.Filter, op impl.FilterOp, run impl.FilterRun) (c impl.Conn, begun bool) {
	if run.Outs[0].Code != impl.OK || len(run.Filter.Conns) == 0 {
		return impl.Conn{}, false
	}
	n := &plainNet{copyFilter(f)}
	n.Time = op.Time
	n.keep(func(_ int, c impl.Conn) bool { return c.Seen+plainStay(c) >= op.Time })
	at, _ := n.owner(op.Packet)
	return run.Filter.Conns[len(run.Filter.Conns)-1], at < 0
}

// hostRuleLets asks each rule of each group of a host, by RuleLets and once more.
func hostRuleLets(t *testing.T, f impl.Filter, addr int64, p impl.Packet, in bool) bool {
	t.Helper()
	for _, h := range f.Hosts {
		for _, group := range h.Groups {
			for _, r := range f.Groups[group].Rules {
				lets := impl.RuleLets(f, r, p, in)
				checkEqual(t, "RuleLets", lets, plainLets(f, r, p, in))
				if h.Addr == addr && lets {
					return true
				}
			}
		}
	}
	return false
}

// checkBegun holds what began to rules of both its hosts, which see it with their own addresses and ports.
func checkBegun(t *testing.T, what string, f impl.Filter, c impl.Conn, flags int64) {
	t.Helper()
	own := impl.Packet{Proto: c.Proto, Src: c.A, SrcPort: c.APort, Dst: c.B, DstPort: c.BPort, Flags: flags}
	checkEqual(t, what+": MayPass", impl.MayPass(f, own), true)
	if plainPlace(f, c.A) >= 0 {
		checkEqual(t, what+": a rule lets it out", hostRuleLets(t, f, c.A, own, false), true)
	}
	if plainPlace(f, c.B) >= 0 {
		checkEqual(t, what+": a rule lets it in", hostRuleLets(t, f, c.B, own, true), true)
	}
}

// checkTold holds what passes to outside to Public, and what passes to a host to its own address.
func checkTold(t *testing.T, what string, f impl.Filter, out impl.Verdict) {
	t.Helper()
	if out.Code != impl.OK {
		checkEqual(t, what+": a code alone", out, impl.Verdict{Code: out.Code})
		return
	}
	if out.To >= 0 {
		checkNumber(t, what+": to a host's own address", out.Packet.Dst, f.Hosts[out.To].Addr)
		return
	}
	checkNumber(t, what+": to outside", out.To, -1)
	checkNumber(t, what+": Src to outside", out.Packet.Src, f.Public)
	for _, h := range f.Hosts {
		if out.Packet.Src == h.Addr || out.Packet.Dst == h.Addr {
			t.Errorf("%s: outside is told %d: %+v", what, h.Addr, out)
		}
	}
}

// checkAnswer sends back what was told of a beginning: it comes to who began that, as the other way of what they sent.
func checkAnswer(t *testing.T, what string, f impl.Filter, began impl.FilterOp, told impl.Verdict, time int64) {
	t.Helper()
	flags := int64(0)
	if began.Packet.Proto == impl.ProtoTcp {
		flags = impl.FlagSyn | impl.FlagAck
	}
	answer := impl.RunFilter(f, []impl.FilterOp{filterOp(time, told.To, backwards(told.Packet, flags))})
	checkEqual(t, what+": the answer", answer.Outs[0], verdict(began.From, backwards(began.Packet, flags)))
	again := impl.RunFilter(answer.Filter, []impl.FilterOp{filterOp(time, began.From, backwards(backwards(began.Packet, 0), flags&impl.FlagAck))})
	told.Packet.Flags = flags & impl.FlagAck
	checkEqual(t, what+": and on", again.Outs[0], told)
	checkNumber(t, what+": it stays right", impl.FilterFault(again.Filter), impl.OK)
}

// netEvents are what an op met with.
func netEvents(f impl.Filter, op impl.FilterOp, run impl.FilterRun, begun bool) []string {
	out, from := run.Outs[0], "outside"
	if op.From >= 0 {
		from = "a host"
	}
	if out.Code != impl.OK {
		return []string{fmt.Sprintf("from %s code %d", from, out.Code)}
	}
	to := "outside"
	if out.To >= 0 {
		to = "a host"
	}
	events := []string{fmt.Sprintf("from %s to %s proto %d begun %v", from, to, op.Packet.Proto, begun)}
	if !begun && len(run.Filter.Conns) < len(f.Conns) && op.Time == f.Time {
		events = append(events, "gone")
	}
	if op.Time > f.Time && len(run.Filter.Conns) < len(f.Conns) {
		events = append(events, "old")
	}
	return events
}

func wantedNetEvents() []string {
	var events []string
	for _, way := range []string{"a host to a host", "a host to outside", "outside to a host"} {
		for _, proto := range []int64{1, 6, 17} {
			for _, begun := range []bool{true, false} {
				events = append(events, fmt.Sprintf("from %s proto %d begun %v", way, proto, begun))
			}
		}
	}
	for _, code := range []int64{impl.ErrForm, impl.ErrRight, impl.ErrState, impl.ErrNone, impl.ErrCount} {
		events = append(events, fmt.Sprintf("from a host code %d", code), fmt.Sprintf("from outside code %d", code))
	}
	return append(events, fmt.Sprintf("from outside code %d", impl.ErrConflict), "gone", "old")
}

// walkFilters lets random packets go through random filters, one by one.
func walkFilters(t *testing.T, seed int64, count int, look func(what string, f impl.Filter, op impl.FilterOp, run impl.FilterRun)) {
	t.Helper()
	rng := rand.New(rand.NewSource(seed))
	for n := range count {
		f := randomFilter(rng)
		for k := range 40 {
			op := randomNetOp(rng, f)
			what := fmt.Sprintf("filter %d, op %d %+v", n, k, op)
			run := checkFilterRun(t, what, f, []impl.FilterOp{op})
			look(what, f, op, run)
			if t.Failed() {
				return
			}
			f = run.Filter
		}
	}
}

func TestP33WhatBeginsIsLetByBothHosts(t *testing.T) {
	events := map[string]int{}
	walkFilters(t, 1731, 3000, func(what string, f impl.Filter, op impl.FilterOp, run impl.FilterRun) {
		c, begun := begunBy(f, op, run)
		for _, event := range netEvents(f, op, run, begun) {
			events[event]++
		}
		if begun {
			checkBegun(t, what, run.Filter, c, op.Packet.Flags)
		}
	})
	for _, event := range wantedNetEvents() {
		if events[event] < 20 {
			t.Errorf("%s: came %d times", event, events[event])
		}
	}
}

func TestP33OutsideIsToldNoHost(t *testing.T) {
	walkFilters(t, 1732, 2000, func(what string, f impl.Filter, _ impl.FilterOp, run impl.FilterRun) {
		checkTold(t, what, f, run.Outs[0])
	})
}

// An answer passes as long as what began is kept: at once, and at the very end of its stay.
func TestP33AnAnswerPassesBack(t *testing.T) {
	begunWays := map[string]int{}
	walkFilters(t, 1733, 2000, func(what string, f impl.Filter, op impl.FilterOp, run impl.FilterRun) {
		c, begun := begunBy(f, op, run)
		if !begun || c.A == c.B && c.APort == c.BPort {
			return
		}
		checkAnswer(t, what, run.Filter, op, run.Outs[0], op.Time)
		if op.Time+plainStay(c) <= 1<<40 {
			checkAnswer(t, what+", late", run.Filter, op, run.Outs[0], op.Time+plainStay(c))
		}
		begunWays[fmt.Sprintf("%v %v", op.From >= 0, run.Outs[0].To >= 0)]++
	})
	for _, way := range []string{"true true", "true false", "false true"} {
		if begunWays[way] < 100 {
			t.Errorf("host to host %s: begun %d times", way, begunWays[way])
		}
	}
}

// Answers go back to who began whatever else began meanwhile, as long as nothing of it is closed.
func TestP33AnswersPassBackAmongOthers(t *testing.T) {
	rng := rand.New(rand.NewSource(1734))
	answered := 0
	for n := range 1500 {
		f := randomFilter(rng)
		type beginning struct {
			op   impl.FilterOp
			told impl.Verdict
		}
		var begun []beginning
		for range 60 {
			op := randomNetOp(rng, f)
			op.Time = f.Time
			if op.Packet.Proto == impl.ProtoTcp {
				op.Packet.Flags = impl.FlagSyn
			}
			run := checkFilterRun(t, fmt.Sprintf("filter %d", n), f, []impl.FilterOp{op})
			c, began := begunBy(f, op, run)
			if began && (c.A != c.B || c.APort != c.BPort) {
				begun = append(begun, beginning{op, run.Outs[0]})
			}
			f = run.Filter
		}
		for _, b := range begun {
			checkAnswer(t, fmt.Sprintf("filter %d: %+v", n, b.op), f, b.op, b.told, f.Time)
			answered++
		}
		if t.Failed() {
			return
		}
	}
	if answered < 3000 {
		t.Errorf("%d answers", answered)
	}
}

func TestP33AFilterStaysRight(t *testing.T) {
	walkFilters(t, 1735, 3000, func(what string, _ impl.Filter, _ impl.FilterOp, run impl.FilterRun) {
		checkNumber(t, what, run.Code, impl.OK)
		checkNumber(t, what+": it stays right", impl.FilterFault(run.Filter), impl.OK)
		checkEqual(t, what+": said once more", plainFilterRight(run.Filter), true)
	})
}

// A run in two parts comes to what it comes to in one, and each stays right.
func TestP33LongRuns(t *testing.T) {
	rng := rand.New(rand.NewSource(1736))
	for n := range 60 {
		f := randomFilter(rng)
		var ops []impl.FilterOp
		at := f
		for range 1000 {
			op := randomNetOp(rng, at)
			ops = append(ops, op)
			at = impl.RunFilter(at, []impl.FilterOp{op}).Filter
		}
		what := fmt.Sprintf("filter %d", n)
		run := checkFilterRun(t, what, f, ops)
		checkNumber(t, what+": it stays right", impl.FilterFault(run.Filter), impl.OK)
		checkFilter(t, what+" one by one", at, run.Filter)
		cut := rng.Intn(1001)
		first := impl.RunFilter(f, ops[:cut])
		second := impl.RunFilter(first.Filter, ops[cut:])
		checkVerdicts(t, what+" in two parts", slices.Concat(first.Outs, second.Outs), run.Outs)
		checkFilter(t, what+" in two parts", second.Filter, run.Filter)
		if t.Failed() {
			return
		}
	}
}

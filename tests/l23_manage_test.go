package tests

import (
	"fmt"
	"math/rand"
	"slices"
	"strings"
	"sync"
	"testing"

	"loop.example/g00038/impl"
)

// freshManager has answered nothing yet, and has no job.
func freshManager(c impl.Cluster) impl.Manager {
	return impl.Manager{Cluster: c, Next: 1}
}

const smallText = "small tenant=0 cpu=1 mem=1 zone=0 apart=0"

// checkLine holds the reply to one line, ahead of which nothing was asked.
func checkAskLine(t *testing.T, line string, reply string) impl.Manager {
	t.Helper()
	return checkAsks(t, fmt.Sprintf("%.120q", line), freshManager(sampleCluster()), line, reply)
}

// checkIdleLine does so where nothing happens and nothing is kept.
func checkIdleLine(t *testing.T, line string, reply string) {
	t.Helper()
	g := checkAskLine(t, line, reply)
	checkManager(t, fmt.Sprintf("%.120q: nothing happened", line), g, freshManager(sampleCluster()))
}

func TestRunManagerRefusesWhatIsTooLongOrWrong(t *testing.T) {
	wrong := changedManager(sampleManager(), func(g *impl.Manager) { g.Next = 0 })
	for what, g := range map[string]impl.Manager{"right": sampleManager(), "wrong": wrong, "none": {}} {
		for _, count := range []int{0, 1, 999, 1000, 1001, 5000} {
			got := checkManagerRun(t, fmt.Sprintf("%s, %d lines", what, count), g, slices.Repeat([]string{"V1 1 beat a1"}, count))
			if count > 1000 {
				checkNumber(t, what, got.Code, impl.ErrSize)
			}
			if got.Code != impl.OK {
				checkManager(t, what+": with a code", got.Manager, impl.Manager{})
				checkEqual(t, what+": Replies with a code", len(got.Replies), 0)
				continue
			}
			checkEqual(t, what+": a reply for each line", len(got.Replies), count)
		}
	}
	checkNumber(t, "nothing", impl.RunManager(impl.Manager{}, nil).Code, impl.ErrForm)
	checkManager(t, "no line", impl.RunManager(sampleManager(), nil).Manager, sampleManager())
}

func TestLinesThatAreNoAsk(t *testing.T) {
	for _, line := range []string{
		"", " ", "   ", strings.Repeat(" ", 200), "hello", "V", "V1", "V2", "V3", "V1 ", "V1 1", "V1 1 ", "V2 1", "V2 1 ", " V1 1 list", "V1 1 list ", "V1 1 list\n", "\nV1 1 list", "V1\t1 list", "V1 1\tlist",
		"V1  1 list", "V1 1  list", "V1 1 stop  db1", "V1 1 stop db1 ", "V1 1 move db1  b1", "V1 1 bill  0",
		"v1 1 list", "1 1 list", "V 1 list", "V1 list", "V11 1 list", "V01 1 list", "V-1 1 list", "V+1 1 list", "Va 1 list", "VV 1 list", "V1.0 1 list", "W1 1 list", "V\u0661 1 list", "V1x 1 list", "1V 1 list", "list", "1 list", "V/ 1 list", "V: 1 list",
		"V1 1 lists", "V1 1 LIST", "V1 1 List", "V1 1 lis", "V1 1 x", "V1 1 V1", "V1 1 1", "V1 1 help", "V1 1 -", "V1 1 balance", "V1 1 drains a1", "V2 1 steps",
		"V1 1 list x", "V1 1 list -", "V2 1 step x", "V2 1 step 1", "V1 1 list db1",
		"V1 1 place", "V1 1 stop", "V1 1 move", "V1 1 move db1", "V1 1 show", "V1 1 bill", "V1 1 tick", "V1 1 beat", "V1 1 fence", "V1 1 ready", "V2 1 drain", "V2 1 job", "V2 1 cancel",
		"V1 1 stop db1 db2", "V1 1 move db1 b1 b2", "V1 1 show db1 db2", "V1 1 bill 0 1", "V1 1 tick 100 101", "V1 1 beat a1 a2", "V1 1 fence a1 a2", "V1 1 ready b2 c1", "V2 1 drain a1 a2", "V2 1 job 1 2", "V2 1 cancel 1 2",
		"V1 1 place small", "V1 1 place " + smallText + " node=a1", "V1 1 place  " + smallText, "V1 1 place " + smallText + " ", "V1 1 place tenant=0 cpu=1 mem=1 zone=0 apart=0", "V1 1 place small cpu=1 tenant=0 mem=1 zone=0 apart=0",
		"V1 1 place small tenant=8 cpu=1 mem=1 zone=0 apart=0", "V1 1 place small tenant=-1 cpu=1 mem=1 zone=0 apart=0", "V1 1 place small tenant=0 cpu=65 mem=1 zone=0 apart=0", "V1 1 place small tenant=0 cpu=0 mem=1 zone=0 apart=0",
		"V1 1 place small tenant=0 cpu=1 mem=1001 zone=0 apart=0", "V1 1 place small tenant=0 cpu=1 mem=1 zone=21 apart=0", "V1 1 place small tenant=0 cpu=1 mem=1 zone=0 apart=21", "V1 1 place small tenant=0 cpu=01 mem=1 zone=0 apart=0", "V1 1 place Small tenant=0 cpu=1 mem=1 zone=0 apart=0",
		"V1 1 list V1 2 list", "V1 1 list\nV1 2 list", "V1 1 list\x00", "\x00", "\xff\xfe", "é", "V1 1 é", "V1\u00a01\u00a0list",
	} {
		checkIdleLine(t, line, "0 syntax")
		if strings.HasPrefix(line, "V1 1") {
			checkIdleLine(t, "V2"+line[2:], "0 syntax")
		}
	}
}

// Names are those of chapter 14: what is none stands in no ask.
func TestLinesWithNamesThatAreNone(t *testing.T) {
	for name, right := range clusterNames() {
		for _, ask := range []string{"stop %s", "show %s", "move %s b1", "move db1 %s", "beat %s", "fence %s", "ready %s", "drain %s"} {
			line := "V2 1 " + fmt.Sprintf(ask, name)
			if !right {
				checkIdleLine(t, line, "0 syntax")
				continue
			}
			reply := impl.RunManager(freshManager(sampleCluster()), []string{line}).Replies[0]
			checkText(t, fmt.Sprintf("%.60q", line), reply, "1 error 5")
		}
	}
}

func TestIdsOfLines(t *testing.T) {
	for _, id := range []string{"1", "2", "9", "10", "12345678", "100000000", "123456789", "999999999"} {
		checkIdleLine(t, "V1 "+id+" list", id+" ok db1,db2,idle,old,stuck,web")
		checkIdleLine(t, "V2 "+id+" job 1", id+" error 5")
		checkIdleLine(t, "V1 "+id+" step", id+" version")
		checkIdleLine(t, "V7 "+id+" step", id+" version")
		g := checkAskLine(t, "V1 "+id+" beat a1", id+" ok")
		checkEqual(t, "kept", g.Kept[0], impl.Answer{Id: plainNum(id), Ask: "V1 " + id + " beat a1", Reply: id + " ok"})
	}
	for _, id := range []string{
		"0", "00", "01", "007", "0123456789", "012345678", "1000000000", "1234567890", "9999999999", "12345678901234567890", "18446744073709551617", "-1", "+1", "-0", "1.0", "0x1", "1a", "a", "a1", "1_0", "", "\u0661", "1\x00", strings.Repeat("0", 9), strings.Repeat("1", 100),
	} {
		for _, version := range []string{"V1", "V2", "V3", "V0", "V9"} {
			checkIdleLine(t, version+" "+id+" list", "0 syntax")
			checkIdleLine(t, version+" "+id, "0 syntax")
		}
	}
}

func TestNumbersOfLines(t *testing.T) {
	for number, told := range map[string]bool{
		"0": true, "1": true, "10": true, "100000000000": true, "1000000000000": true, "1099511627776": true, "1099511627777": true, "9999999999999": true,
		"10000000000000": false, "99999999999999": false, "12345678901234": false, "9223372036854775807": false, "9223372036854775808": false, "18446744073709551616": false, "-9223372036854775808": false,
		"00": false, "01": false, "0000000000001": false, "-1": false, "-0": false, "+1": false, "": false, "a": false, "1a": false, "1.5": false, "1e3": false, "0x1": false, "db1": false, "\u0661": false, "1\n": false,
	} {
		// The sample has three tenants and no job, and is at time 100; at each later time that may be all its nodes are fenced.
		replies := map[string]string{"bill": "1 error 5", "tick": "1 error 1", "job": "1 error 5", "cancel": "1 error 5"}
		if number == "0" {
			replies["bill"] = "1 ok 5"
		}
		if number == "1" {
			replies["bill"] = "1 ok 0"
		}
		if slices.Contains([]string{"100000000000", "1000000000000", "1099511627776"}, number) {
			replies["tick"] = "1 ok 0"
		}
		for kind, reply := range replies {
			line := "V2 1 " + kind + " " + number
			if !told {
				checkIdleLine(t, line, "0 syntax")
				continue
			}
			checkAskLine(t, line, reply)
		}
	}
}

func TestLinesOf200Bytes(t *testing.T) {
	for _, size := range []int{199, 200, 201, 400, 65536, 65537, 1000000} {
		line := "V3 5 " + strings.Repeat("x", size-5)
		reply := "5 version"
		if size > 200 {
			reply = "0 syntax"
		}
		checkIdleLine(t, line, reply)
		checkIdleLine(t, "V1 5 "+strings.Repeat("x", size-5), "0 syntax")
		checkIdleLine(t, "V1 5 list"+strings.Repeat(" ", size-9), "0 syntax")
		checkIdleLine(t, "V2 5 stop "+strings.Repeat("a", size-10), "0 syntax")
		checkIdleLine(t, "V4 5 "+strings.Repeat(" ", size-5), reply)
		checkIdleLine(t, strings.Repeat("\xff", size), "0 syntax")
	}
	// Bytes count, not signs: 97 of two bytes each, and six ahead of them, are 200.
	checkIdleLine(t, "V3 5 x"+strings.Repeat("é", 97), "5 version")
	checkIdleLine(t, "V3 5 xx"+strings.Repeat("é", 97), "0 syntax")
}

// A line of more than 200 bytes is no ask, also where it is in Kept.
func TestALongLineThatIsKept(t *testing.T) {
	for size, reply := range map[int]string{200: "5 version", 201: "0 syntax", 400: "0 syntax"} {
		line := "V3 5 " + strings.Repeat("x", size-5)
		g := changedManager(sampleManager(), func(g *impl.Manager) { g.Kept[0] = impl.Answer{Id: 5, Ask: line, Reply: "5 kept"} })
		checkNoChange(t, fmt.Sprint(size), g, line, reply)
	}
}

func TestVersions(t *testing.T) {
	for digit := range 10 {
		version := fmt.Sprint("V", digit)
		if digit == 1 || digit == 2 {
			checkIdleLine(t, version+" 4 list", "4 ok db1,db2,idle,old,stuck,web")
			continue
		}
		for _, rest := range []string{"", " ", " list", " drain a1", " place " + smallText, " x", "  list", " list ", " stop", " stop A!", " \n", " \x00", " V1 5 list", " é"} {
			checkIdleLine(t, version+" 4"+rest, "4 version")
		}
		for _, line := range []string{version, version + " ", version + " list", version + " x 4", version + "  4 list", " " + version + " 4 list", version + "4 list", version + " 4\n", version + " 4,list", version + " 4x list", version + version[1:] + " 4 list", version + ".0 4 list", "v" + version[1:] + " 4 list"} {
			checkIdleLine(t, line, "0 syntax")
		}
	}
}

// What is asked of V1 as it may not be is no ask of any version where it would be none of V2.
func TestAsksOfV2(t *testing.T) {
	for _, ask := range []string{"drain a1", "drain zz", "job 1", "job 0", "cancel 1", "cancel 9999999999999", "step"} {
		checkIdleLine(t, "V1 6 "+ask, "6 version")
		reply := checkManagerRun(t, ask, freshManager(sampleCluster()), []string{"V2 6 " + ask}).Replies[0]
		checkEqual(t, ask+": may be asked of V2", strings.HasPrefix(reply, "6 ok") || strings.HasPrefix(reply, "6 error"), true)
	}
	for _, ask := range []string{"drain", "drain A", "drain a1 a2", "job", "job x", "job 01", "cancel", "cancel -1", "cancel 10000000000000", "step 1", "step ", "steps"} {
		checkIdleLine(t, "V1 6 "+ask, "0 syntax")
		checkIdleLine(t, "V2 6 "+ask, "0 syntax")
	}
	// All others are answered alike in both.
	for _, ask := range []string{"list", "show web", "show zz", "bill 2", "bill 3", "place " + smallText, "stop db1", "stop zz", "move db1 b1", "tick 131", "tick 99", "beat a1", "beat c1", "fence b1", "ready b2", "ready c1"} {
		first := checkManagerRun(t, ask, freshManager(sampleCluster()), []string{"V1 6 " + ask})
		second := checkManagerRun(t, ask, freshManager(sampleCluster()), []string{"V2 6 " + ask})
		checkNames(t, ask, second.Replies, first.Replies)
		checkCluster(t, ask, second.Manager.Cluster, first.Manager.Cluster)
	}
}

// checkKeptAsk holds the reply to an ask that may change something, and that it is kept with that; it answers the cluster behind it.
func checkKeptAsk(t *testing.T, c impl.Cluster, ask string, reply string) impl.Cluster {
	t.Helper()
	line, told := "V1 31 "+ask, "31 "+reply
	g := checkAsks(t, ask, freshManager(c), line, told)
	want := impl.Manager{Cluster: g.Cluster, Kept: []impl.Answer{{Id: 31, Ask: line, Reply: told}}, Next: 1}
	checkManager(t, ask+": what is kept", g, want)
	if strings.HasPrefix(reply, "error") {
		checkCluster(t, ask+": with a code", g.Cluster, c)
	}
	return g.Cluster
}

func TestPlaceAsks(t *testing.T) {
	c := checkKeptAsk(t, sampleCluster(), "place "+smallText, "ok a1")
	checkEqual(t, "small", vmOf(c, "small"), impl.Vm{Name: "small", Cpu: 1, Mem: 1, Node: "a1", Epoch: 1})
	c = checkKeptAsk(t, sampleCluster(), "place all tenant=1 cpu=12 mem=60 zone=2 apart=9", "ok b1")
	checkEqual(t, "all", vmOf(c, "all"), impl.Vm{Name: "all", Tenant: 1, Cpu: 12, Mem: 60, Zone: 2, Apart: 9, Node: "b1", Epoch: 1})
	full := changedCluster(sampleCluster(), func(c *impl.Cluster) { c.Vms = manyVms(30) })
	checkKeptAsk(t, sampleCluster(), "place small tenant=3 cpu=1 mem=1 zone=0 apart=0", "error 1")
	checkKeptAsk(t, sampleCluster(), "place small tenant=7 cpu=1 mem=1 zone=0 apart=0", "error 1")
	checkKeptAsk(t, sampleCluster(), "place db1 tenant=0 cpu=1 mem=1 zone=0 apart=0", "error 9")
	checkKeptAsk(t, full, "place "+smallText, "error 4")
	checkKeptAsk(t, sampleCluster(), "place small tenant=2 cpu=10 mem=1 zone=0 apart=0", "error 7")
	checkKeptAsk(t, sampleCluster(), "place small tenant=0 cpu=1 mem=1 zone=3 apart=0", "error 5")
	// Of several the first is told.
	checkKeptAsk(t, full, "place v0001 tenant=3 cpu=64 mem=1000 zone=20 apart=0", "error 1")
	checkKeptAsk(t, full, "place v0001 tenant=2 cpu=64 mem=1000 zone=20 apart=0", "error 9")
	checkKeptAsk(t, full, "place w tenant=2 cpu=64 mem=1000 zone=20 apart=0", "error 4")
	checkKeptAsk(t, sampleCluster(), "place w tenant=2 cpu=64 mem=1000 zone=20 apart=0", "error 7")
}

func TestStopAndMoveAsks(t *testing.T) {
	for _, name := range vmNames(sampleCluster()) {
		c := checkKeptAsk(t, sampleCluster(), "stop "+name, "ok")
		checkText(t, name+" is no more", vmOf(c, name).Name, "")
	}
	checkKeptAsk(t, sampleCluster(), "stop zz", "error 5")
	checkKeptAsk(t, sampleCluster(), "stop a1", "error 5")
	c := checkKeptAsk(t, sampleCluster(), "move db1 b1", "ok")
	checkEqual(t, "db1", vmOf(c, "db1"), impl.Vm{Name: "db1", Cpu: 2, Mem: 20, Apart: 1, Node: "b1", Epoch: 1})
	heavy := changedCluster(sampleCluster(), func(c *impl.Cluster) { c.Vms[0].Mem = 71 })
	busy := changedCluster(sampleCluster(), func(c *impl.Cluster) { c.Vms[0].Cpu, c.Vms[5].Cpu = 12, 4 })
	checkKeptAsk(t, sampleCluster(), "move zz b1", "error 5")
	checkKeptAsk(t, sampleCluster(), "move db1 zz", "error 5")
	checkKeptAsk(t, sampleCluster(), "move idle b1", "error 6")
	checkKeptAsk(t, sampleCluster(), "move db1 a1", "error 6")
	checkKeptAsk(t, sampleCluster(), "move db1 b2", "error 6")
	checkKeptAsk(t, sampleCluster(), "move db1 c1", "error 6")
	checkKeptAsk(t, sampleCluster(), "move web a1", "error 7")
	checkKeptAsk(t, sampleCluster(), "move db1 a2", "error 9")
	checkKeptAsk(t, heavy, "move db1 b1", "error 2")
	checkKeptAsk(t, busy, "move db1 b1", "error 8")
}

func TestTickAsks(t *testing.T) {
	c := checkKeptAsk(t, sampleCluster(), "tick 100", "ok 1")
	checkText(t, "idle", vmOf(c, "idle").Node, "a1")
	lately := changedCluster(sampleCluster(), func(c *impl.Cluster) { c.Nodes[2].Beat = 100 })
	c = checkKeptAsk(t, lately, "tick 121", "ok 2")
	checkText(t, "db1", vmOf(c, "db1").Node, "b1")
	checkNumber(t, "the time", c.Time, 121)
	checkNumber(t, "a Bill", c.Tenants[0].Bill, 5+21*4)
	c = checkKeptAsk(t, sampleCluster(), "tick 1099511627776", "ok 0")
	checkNumber(t, "the time", c.Time, 1<<40)
	checkKeptAsk(t, c, "tick 1099511627776", "ok 0")
	checkKeptAsk(t, sampleCluster(), "tick 1099511627777", "error 1")
	checkKeptAsk(t, sampleCluster(), "tick 9999999999999", "error 1")
	checkKeptAsk(t, sampleCluster(), "tick 99", "error 1")
	checkKeptAsk(t, sampleCluster(), "tick 0", "error 1")
}

func TestNodeAsks(t *testing.T) {
	c := checkKeptAsk(t, sampleCluster(), "beat a1", "ok")
	checkNumber(t, "Beat of a1", nodeOf(c, "a1").Beat, 100)
	c = checkKeptAsk(t, sampleCluster(), "beat b2", "ok")
	checkEqual(t, "b2 is Closed still", nodeOf(c, "b2").Closed, true)
	checkKeptAsk(t, sampleCluster(), "beat zz", "error 5")
	checkKeptAsk(t, sampleCluster(), "beat c1", "error 6")
	two := changedCluster(sampleCluster(), func(c *impl.Cluster) { c.Vms[2].Node = "a1" })
	c = checkKeptAsk(t, two, "fence a1", "ok 2")
	checkEqual(t, "a1 is Fenced", nodeOf(c, "a1").Fenced, true)
	checkKeptAsk(t, sampleCluster(), "fence a1", "ok 1")
	checkKeptAsk(t, sampleCluster(), "fence b2", "ok 1")
	bare := changedCluster(sampleCluster(), func(c *impl.Cluster) { c.Vms = nil })
	checkKeptAsk(t, bare, "fence a1", "ok 0")
	checkKeptAsk(t, sampleCluster(), "fence zz", "error 5")
	checkKeptAsk(t, sampleCluster(), "fence c1", "error 6")
	c = checkKeptAsk(t, bare, "ready c1", "ok")
	checkEqual(t, "c1 is ready", nodeOf(c, "c1"), impl.Node{Name: "c1", Cpu: 16, Mem: 300, Zone: 3, Beat: 100})
	checkKeptAsk(t, bare, "ready b2", "ok")
	checkKeptAsk(t, sampleCluster(), "ready zz", "error 5")
	checkKeptAsk(t, sampleCluster(), "ready a1", "error 6")
	checkKeptAsk(t, sampleCluster(), "ready b2", "error 6")
	checkKeptAsk(t, sampleCluster(), "ready c1", "error 6")
}

func TestShowListAndBillAsks(t *testing.T) {
	g := sampleManager()
	g.Cluster.Vms[2].Epoch = 1 << 40
	checkNoChange(t, "show", g,
		"V1 1 show db1", "1 ok db1 tenant=0 cpu=2 mem=20 zone=0 apart=1 node=a1 epoch=1",
		"V2 1 show web", "1 ok web tenant=1 cpu=3 mem=30 zone=2 apart=1 node=b1 epoch=1",
		"V1 2 show idle", "2 ok idle tenant=2 cpu=1 mem=1 zone=0 apart=0 node=- epoch=1099511627776",
		"V1 2 show stuck", "2 ok stuck tenant=1 cpu=1 mem=5 zone=0 apart=0 node=c1 epoch=7",
		"V1 3 show a1", "3 error 5", "V1 3 show db", "3 error 5", "V1 3 show db11", "3 error 5",
	)
	checkNoChange(t, "list", g, "V1 1 list", "1 ok db1,db2,idle,old,stuck,web", "V2 1 list", "1 ok db1,db2,idle,old,stuck,web")
	checkNoChange(t, "bill", g, "V1 1 bill 0", "1 ok 5", "V1 1 bill 1", "1 ok 0", "V2 1 bill 2", "1 ok 1152921504606846976", "V1 1 bill 3", "1 error 5", "V1 1 bill 8", "1 error 5", "V1 1 bill 9999999999999", "1 error 5")
	bare := freshManager(impl.Cluster{Tenants: []impl.Tenant{{Bill: 1}}, Over: 100})
	checkNoChange(t, "nothing", bare, "V1 1 list", "1 ok -", "V1 1 show a", "1 error 5", "V1 1 bill 0", "1 ok 1", "V1 1 bill 1", "1 error 5")
	bare.Cluster.Vms = []impl.Vm{{Name: "-", Cpu: 1, Mem: 1}}
	bare.Cluster.Tenants[0] = impl.Tenant{Cpu: 1, Mem: 1}
	checkNoChange(t, "one", bare, "V1 1 list", "1 ok -", "V1 1 show -", "1 ok - tenant=0 cpu=1 mem=1 zone=0 apart=0 node=- epoch=0")
	far := freshManager(changedCluster(sampleCluster(), func(c *impl.Cluster) { c.Vms = manyVms(30) }))
	checkNoChange(t, "as many as may be", far, "V1 999999999 list", "999999999 ok "+strings.Join(numbered("v", 30), ","))
}

// What one ask does counts for those behind it.
func TestAsksOneBehindAnother(t *testing.T) {
	c := impl.Cluster{Nodes: []impl.Node{{Name: "p", Cpu: 4, Mem: 10, Zone: 1}, {Name: "q", Cpu: 4, Mem: 8, Zone: 2}}, Tenants: []impl.Tenant{{Cpu: 8, Mem: 30}}, Over: 100}
	g := checkAsks(t, "one behind another", freshManager(c),
		"V1 1 place a tenant=0 cpu=2 mem=4 zone=0 apart=0", "1 ok p",
		"V1 2 place b tenant=0 cpu=2 mem=4 zone=0 apart=0", "2 ok q",
		"V1 3 list", "3 ok a,b",
		"V1 4 tick 10", "4 ok 0",
		"V1 5 bill 0", "5 ok 40",
		"V1 6 beat q", "6 ok",
		"V1 7 tick 31", "7 ok 1",
		"V1 8 show a", "8 ok a tenant=0 cpu=2 mem=4 zone=0 apart=0 node=q epoch=2",
		"V1 9 ready p", "9 ok",
		"V1 10 move a p", "10 ok",
		"V1 11 fence q", "11 ok 1",
		"V1 12 show b", "12 ok b tenant=0 cpu=2 mem=4 zone=0 apart=0 node=- epoch=1",
		"V1 13 tick 31", "13 ok 1",
		"V1 14 place c tenant=0 cpu=5 mem=1 zone=0 apart=0", "14 error 7",
		"V1 15 place c tenant=0 cpu=1 mem=1 zone=0 apart=0", "15 error 5",
		"V1 16 stop a", "16 ok",
		"V1 17 place c tenant=0 cpu=1 mem=1 zone=0 apart=0", "17 ok p",
		"V1 18 list", "18 ok b,c",
	)
	checkText(t, "where they are", nodesOfVms(g.Cluster), "b:p:2 c:p:1 ")
}

// Whatever line comes, it is answered as said once more, and what is no ask changes nothing.
func TestRunManagerOfRandomLines(t *testing.T) {
	rng := rand.New(rand.NewSource(2302))
	syntax, versions, done := 0, 0, 0
	for n := range 6000 {
		g := anyManager(rng)
		line := spoiltLine(rng, randomManAsk(rng, g, 1+rng.Int63n(60)))
		got := checkManagerRun(t, fmt.Sprintf("run %d: %q", n, line), g, []string{line})
		reply := got.Replies[0]
		switch {
		case reply == "0 syntax":
			syntax++
		case strings.HasSuffix(reply, " version"):
			versions++
		default:
			done++
			continue
		}
		checkManager(t, fmt.Sprintf("run %d: %q: nothing happened", n, line), got.Manager, g)
		if t.Failed() {
			return
		}
	}
	if syntax < 500 || versions < 500 || done < 500 {
		t.Errorf("%d, %d and %d of 6000", syntax, versions, done)
	}
}

func TestRunManagerKeepsNothingForTheNextCall(t *testing.T) {
	lines := []string{"V1 1 place " + smallText, "V2 2 drain a1", "V2 3 step", "V1 4 stop web"}
	first := impl.RunManager(sampleManager(), lines)
	impl.RunManager(first.Manager, []string{"V2 5 step", "V2 6 cancel 1", "V1 1 list"})
	again := impl.RunManager(sampleManager(), lines)
	checkNames(t, "once more", again.Replies, first.Replies)
	checkManager(t, "once more", again.Manager, first.Manager)
}

// A run in two parts comes to what it comes to in one.
func TestRunManagerInTwoParts(t *testing.T) {
	rng := rand.New(rand.NewSource(2303))
	for n := range 400 {
		g := anyManager(rng)
		var lines []string
		for range rng.Intn(40) {
			lines = append(lines, randomManAsk(rng, g, 1+rng.Int63n(60)))
		}
		cut := rng.Intn(len(lines) + 1)
		whole := impl.RunManager(g, lines)
		ahead := impl.RunManager(g, lines[:cut])
		behind := impl.RunManager(ahead.Manager, lines[cut:])
		checkNames(t, fmt.Sprintf("run %d", n), append(ahead.Replies, behind.Replies...), whole.Replies)
		checkManager(t, fmt.Sprintf("run %d", n), behind.Manager, whole.Manager)
	}
}

// spoilManager writes into all lists of a manager, and behind their ends.
func spoilManager(g impl.Manager) {
	spoilCluster(g.Cluster)
	for at := range g.Jobs {
		clear(g.Jobs[at].Left)
		_ = append(g.Jobs[at].Left, "spoilt")
	}
	clear(g.Jobs)
	clear(g.Kept)
	_ = append(g.Jobs, impl.ManJob{Number: 77})
	_ = append(g.Kept, impl.Answer{Id: 77}, impl.Answer{Id: 78})
}

// roomyManager has something behind the end of each list, which a call could write over.
func roomyManager(g impl.Manager) impl.Manager {
	g.Kept = append(g.Kept, impl.Answer{Ask: "room"}, impl.Answer{Ask: "room"})[:len(g.Kept)]
	g.Jobs = append(g.Jobs, impl.ManJob{Node: "room"}, impl.ManJob{Node: "room"})[:len(g.Jobs)]
	for at := range g.Jobs {
		left := g.Jobs[at].Left
		g.Jobs[at].Left = append(left, "room")[:len(left)]
	}
	return g
}

func checkManagerRoom(t *testing.T, what string, g impl.Manager) {
	t.Helper()
	for _, a := range g.Kept[len(g.Kept) : len(g.Kept)+2] {
		checkText(t, what+": behind Kept", a.Ask, "room")
	}
	for _, job := range g.Jobs[len(g.Jobs) : len(g.Jobs)+2] {
		checkText(t, what+": behind Jobs", job.Node, "room")
	}
	for _, job := range g.Jobs {
		checkText(t, what+": behind Left", job.Left[:len(job.Left)+1][len(job.Left)], "room")
	}
}

func TestAnswersOfRunManagerAreNewMemory(t *testing.T) {
	rng := rand.New(rand.NewSource(2304))
	for n := range 400 {
		g := roomyManager(anyManager(rng))
		before := copyManager(g)
		var lines []string
		for range rng.Intn(30) {
			lines = append(lines, randomManAsk(rng, g, 1+rng.Int63n(60)))
		}
		what := fmt.Sprintf("run %d", n)
		run := checkManagerRun(t, what, g, lines)
		clear(run.Replies)
		checkNumber(t, what+": the manager of an answer with Replies spoilt", impl.ManagerFault(run.Manager), impl.OK)
		spoilManager(run.Manager)
		checkManager(t, what+": what was handed in", g, before)
		checkManagerRoom(t, what, g)
	}
}

// Two lists of one answer share nothing: a write into one Left is seen in no other, and in no list of the cluster.
func TestListsOfAnAnswerOfRunManagerAreApart(t *testing.T) {
	c := drainable()
	run := impl.RunManager(freshManager(c), []string{"V2 1 drain d", "V2 2 step", "V2 3 drain c"})
	checkManJobs(t, "drained", run.Manager.Jobs, impl.ManJob{Number: 1, Node: "d", Left: []string{"r", "s"}, Done: 1}, impl.ManJob{Number: 2, Node: "c", Left: []string{"q"}})
	run.Manager.Jobs[0].Left[0] = "spoilt"
	_ = append(run.Manager.Jobs[0].Left[:1], "spoilt", "spoilt")
	checkNames(t, "the other job", run.Manager.Jobs[1].Left, []string{"q"})
	checkNames(t, "machines", vmNames(run.Manager.Cluster), []string{"p", "q", "r", "s"})
}

// What is told hangs on nothing but what was handed in, also where several ask at once.
func TestRunManagerAnswersAlikeAtOnce(t *testing.T) {
	rng := rand.New(rand.NewSource(2305))
	for n := range 40 {
		g := anyManager(rng)
		var lines []string
		for range 30 {
			lines = append(lines, randomManAsk(rng, g, 1+rng.Int63n(60)))
		}
		want := plainManagerRun(g, lines)
		runs := make([]impl.ManRun, 8)
		var all sync.WaitGroup
		for at := range runs {
			all.Go(func() { runs[at] = impl.RunManager(g, slices.Clone(lines)) })
		}
		all.Wait()
		for _, run := range runs {
			checkNames(t, fmt.Sprintf("run %d", n), run.Replies, want.Replies)
			checkManager(t, fmt.Sprintf("run %d", n), run.Manager, want.Manager)
		}
	}
}

package tests

import (
	"fmt"
	"math/rand"
	"slices"
	"strings"
	"testing"

	"loop.example/g00038/impl"
)

func answersOf(said ...string) []impl.Answer {
	var kept []impl.Answer
	for pair := range slices.Chunk(said, 2) {
		id := strings.Fields(pair[0])[1]
		kept = append(kept, impl.Answer{Id: plainNum(id), Ask: pair[0], Reply: pair[1]})
	}
	return kept
}

func checkKeptAnswers(t *testing.T, what string, g impl.Manager, want ...impl.Answer) {
	t.Helper()
	if !slices.Equal(g.Kept, want) {
		t.Errorf("%s: got %+v, want %+v", what, g.Kept, want)
	}
}

// Each ask that changes something, done, and with a code.
func TestWhatIsKept(t *testing.T) {
	for _, said := range [][]string{
		{"V1 5 place " + smallText, "5 ok a1"}, {"V1 5 place db1 tenant=0 cpu=1 mem=1 zone=0 apart=0", "5 error 9"}, {"V2 5 stop db1", "5 ok"}, {"V1 5 stop zz", "5 error 5"},
		{"V1 5 move db1 b1", "5 ok"}, {"V1 5 move db1 a2", "5 error 9"}, {"V1 5 tick 100", "5 ok 1"}, {"V1 5 tick 99", "5 error 1"}, {"V1 5 beat a1", "5 ok"}, {"V2 5 beat c1", "5 error 6"},
		{"V1 5 fence a1", "5 ok 1"}, {"V1 5 fence zz", "5 error 5"}, {"V1 5 ready c1", "5 error 6"}, {"V1 5 ready zz", "5 error 5"},
		{"V2 5 drain a1", "5 ok 12"}, {"V2 5 drain zz", "5 error 5"}, {"V2 5 drain b2", "5 error 6"}, {"V2 5 step", "5 ok"}, {"V2 5 cancel 1", "5 ok"}, {"V2 5 cancel 2", "5 error 5"}, {"V2 5 cancel 3", "5 error 6"},
	} {
		g := checkAsks(t, said[0], sampleManager(), said...)
		checkKeptAnswers(t, said[0], g, append(sampleManager().Kept, answersOf(said...)...)...)
		again := checkAsks(t, said[0]+" once more", g, said...)
		checkManager(t, said[0]+" once more", again, g)
	}
}

func TestWhatIsNotKept(t *testing.T) {
	for _, said := range [][]string{
		{"V1 5 show db1", "5 ok db1 tenant=0 cpu=2 mem=20 zone=0 apart=1 node=a1 epoch=1"}, {"V1 5 show zz", "5 error 5"}, {"V1 5 list", "5 ok db1,db2,idle,old,stuck,web"}, {"V1 5 bill 1", "5 ok 0"}, {"V2 5 bill 7", "5 error 5"},
		{"V2 5 job 4", "5 ok 2 1 2"}, {"V2 5 job 5", "5 error 5"}, {"V1 5 stop", "0 syntax"}, {"V3 5 stop db1", "5 version"}, {"V1 5 drain a1", "5 version"}, {"V1 5 job 4", "5 version"}, {"V1 5 step", "5 version"}, {"V1 5 cancel 1", "5 version"},
	} {
		checkNoChange(t, said[0], sampleManager(), said...)
		// Its id may be that of an ask behind it.
		behind := append(slices.Clone(said), "V1 5 beat a1", "5 ok")
		g := checkAsks(t, said[0], sampleManager(), behind...)
		checkKeptAnswers(t, said[0], g, append(sampleManager().Kept, answersOf("V1 5 beat a1", "5 ok")...)...)
	}
}

// Another line of an id that is kept has error 9, whatever it asks for, and nothing happens.
func TestAnotherLineOfAnIdThatIsKept(t *testing.T) {
	g := changedManager(sampleManager(), func(g *impl.Manager) { g.Kept = append(g.Kept, answersOf("V1 5 stop db1", "5 error 5")...) })
	for _, ask := range []string{
		"place " + smallText, "stop db2", "stop zz", "move db1 b1", "tick 120", "tick 0", "beat a1", "fence a1", "ready a1", "show db1", "show zz", "list", "bill 0", "bill 9", "drain a1", "drain b2", "job 1", "job 99", "cancel 1", "cancel 3", "step",
	} {
		checkNoChange(t, ask, g, "V2 5 "+ask, "5 error 9", "V2 5 "+ask, "5 error 9")
	}
	checkNoChange(t, "the same ask of another version", g, "V2 5 stop db1", "5 error 9")
	checkNoChange(t, "the same line", g, "V1 5 stop db1", "5 error 5")
	// What is no ask that may be asked is told ahead of it.
	checkNoChange(t, "syntax", g, "V1 5 stop", "0 syntax", "V1 5 stop db1 ", "0 syntax", "V1 05 stop db1", "0 syntax", "V1 5", "0 syntax")
	checkNoChange(t, "version", g, "V3 5 stop db1", "5 version", "V1 5 step", "5 version", "V0 5", "5 version")
	// An id is a number by itself: 50 and 15 are others.
	checkAsks(t, "other ids", g, "V1 50 stop db1", "50 ok", "V1 15 stop db2", "15 ok")
}

// An ask that is kept is answered as then, whatever that was and whatever is true by now.
func TestTheSameLineIsAnsweredAsThen(t *testing.T) {
	for _, reply := range []string{"5 ok", "5 error 5", "5 ok a1", "", "whatever it was", "6 ok", "\x00\xff", strings.Repeat("x", 400)} {
		for _, line := range []string{"V1 5 stop db1", "V2 5 step", "V1 5 list", "V1 5 show db1", "V2 5 job 1", "V1 5 bill 0", "V2 5 drain a1"} {
			g := changedManager(sampleManager(), func(g *impl.Manager) {
				g.Kept = append([]impl.Answer{{Id: 5, Ask: line, Reply: reply}}, g.Kept...)
			})
			checkNoChange(t, line, g, line, reply, line, reply)
		}
	}
	// A line that is no ask that may be asked is not answered as then.
	for line, reply := range map[string]string{"V3 5 stop db1": "5 version", "V1 5 step": "5 version", "V1 5 stop": "0 syntax", "hello": "0 syntax", "": "0 syntax"} {
		g := changedManager(sampleManager(), func(g *impl.Manager) { g.Kept[0] = impl.Answer{Id: 5, Ask: line, Reply: "5 kept"} })
		checkNoChange(t, line, g, line, reply)
	}
	// The id of what is kept counts, not the one that stands in its Ask.
	g := changedManager(sampleManager(), func(g *impl.Manager) { g.Kept[0] = impl.Answer{Id: 6, Ask: "V1 5 stop db1", Reply: "5 kept"} })
	checkNoChange(t, "another id in the Ask", g, "V1 6 stop db1", "6 error 9")
	checkAsks(t, "another id in the Ask", g, "V1 5 stop db1", "5 ok")
}

func TestAnAskWithAnErrorThatIsSentAgain(t *testing.T) {
	// By the second time the first line could be done; the line behind it, with an id of its own, is.
	g := checkAsks(t, "an error", freshManager(sampleCluster()),
		"V1 1 stop small", "1 error 5",
		"V1 2 place "+smallText, "2 ok a1",
		"V1 1 stop small", "1 error 5",
		"V1 3 show small", "3 ok small tenant=0 cpu=1 mem=1 zone=0 apart=0 node=a1 epoch=1",
		"V1 4 stop small", "4 ok",
		"V1 4 stop small", "4 ok",
		"V1 2 place "+smallText, "2 ok a1",
		"V1 5 show small", "5 error 5",
	)
	checkKeptAnswers(t, "an error", g, answersOf("V1 1 stop small", "1 error 5", "V1 2 place "+smallText, "2 ok a1", "V1 4 stop small", "4 ok")...)
	checkCluster(t, "an error", g.Cluster, sampleCluster())
}

// beatAsks are as many asks that change something, with ids from first on, and their replies.
func beatAsks(first int64, count int64) []string {
	var said []string
	for n := range count {
		said = append(said, fmt.Sprintf("V1 %d beat a1", first+n), fmt.Sprintf("%d ok", first+n))
	}
	return said
}

func TestTheOldestOfKeptGoes(t *testing.T) {
	for count := range int64(45) {
		g := checkAsks(t, fmt.Sprint(count), freshManager(sampleCluster()), beatAsks(1, count)...)
		checkKeptAnswers(t, fmt.Sprint(count), g, answersOf(beatAsks(max(1, count-19), min(20, count))...)...)
		behind := checkAsks(t, fmt.Sprint(count, " in another run"), sampleManager(), beatAsks(1, count)...)
		all := append(sampleManager().Kept, answersOf(beatAsks(1, count)...)...)
		checkKeptAnswers(t, fmt.Sprint(count, " behind two"), behind, all[max(0, len(all)-20):]...)
	}
}

func TestAnAskWhoseIdIsNoMoreInKept(t *testing.T) {
	said := append([]string{"V1 500 stop db1", "500 ok"}, beatAsks(1, 19)...)
	g := checkAsks(t, "twenty", freshManager(sampleCluster()), said...)
	checkNoChange(t, "kept still", g, "V1 500 stop db1", "500 ok", "V1 500 stop db2", "500 error 9")
	g = checkAsks(t, "one more", g, "V1 20 beat a1", "20 ok")
	checkNoChange(t, "ahead of its being asked again", g, "V1 1 beat a1", "1 ok", "V1 500 list", "500 ok db2,idle,old,stuck,web")
	g = checkAsks(t, "asked again", g, "V1 500 stop db1", "500 error 5", "V1 500 stop db1", "500 error 5", "V1 500 stop db2", "500 error 9", "V1 1 beat a2", "1 ok")
	want := append(answersOf(beatAsks(3, 18)...), answersOf("V1 500 stop db1", "500 error 5", "V1 1 beat a2", "1 ok")...)
	checkKeptAnswers(t, "asked again", g, want...)
}

// Who is asked again stays where it was in Kept, and does not become the newest one.
func TestAnAskThatIsSentAgainGetsNoYounger(t *testing.T) {
	g := checkAsks(t, "twenty", freshManager(sampleCluster()), beatAsks(1, 20)...)
	g = checkAsks(t, "the oldest again, and a new one", g, "V1 1 beat a1", "1 ok", "V1 1 beat a2", "1 error 9", "V1 21 beat a1", "21 ok")
	checkKeptAnswers(t, "the oldest again, and a new one", g, answersOf(beatAsks(2, 20)...)...)
}

// Ids need not rise.
func TestIdsInAnyOrder(t *testing.T) {
	g := checkAsks(t, "any order", freshManager(sampleCluster()), "V1 9 beat a1", "9 ok", "V1 3 beat a1", "3 ok", "V1 999999999 beat a1", "999999999 ok", "V1 1 beat a1", "1 ok", "V1 3 beat a1", "3 ok", "V1 9 beat a2", "9 error 9")
	checkKeptAnswers(t, "any order", g, answersOf("V1 9 beat a1", "9 ok", "V1 3 beat a1", "3 ok", "V1 999999999 beat a1", "999999999 ok", "V1 1 beat a1", "1 ok")...)
}

// checkTwice sends a line twice at once, in one call and in two.
func checkTwice(t *testing.T, what string, g impl.Manager, line string) impl.Manager {
	t.Helper()
	once := checkManagerRun(t, what, g, []string{line})
	twice := checkManagerRun(t, what, g, []string{line, line})
	checkText(t, what+": the second reply", twice.Replies[1], twice.Replies[0])
	checkText(t, what+": the first reply", twice.Replies[0], once.Replies[0])
	checkManager(t, what+": behind both", twice.Manager, once.Manager)
	later := checkManagerRun(t, what, once.Manager, []string{line})
	checkText(t, what+": in a call of its own", later.Replies[0], once.Replies[0])
	checkManager(t, what+": in a call of its own", later.Manager, once.Manager)
	return once.Manager
}

func TestP48AnAskThatIsSentTwiceIsDoneOnce(t *testing.T) {
	for _, ask := range []string{
		"place " + smallText, "place db1 tenant=0 cpu=1 mem=1 zone=0 apart=0", "stop db1", "stop zz", "move db1 b1", "move db1 a1", "tick 100", "tick 131", "tick 0", "beat a1", "beat c1", "fence a1", "fence c1", "ready a1", "ready zz",
		"show db1", "show zz", "list", "bill 0", "bill 9", "drain a1", "drain a2", "drain b2", "drain zz", "job 1", "job 2", "cancel 1", "cancel 3", "cancel 2", "step", "x", "", "stop", "list ",
	} {
		for _, version := range []string{"V1", "V2", "V3"} {
			line := version + " 41 " + ask
			checkTwice(t, line, sampleManager(), line)
		}
	}
}

func TestP48AnyAskThatIsSentTwice(t *testing.T) {
	rng := rand.New(rand.NewSource(2348))
	replies := map[string]int{}
	for n := range 400 {
		g := anyManager(rng)
		for k := range 12 {
			line := randomManAsk(rng, g, 1+rng.Int63n(60))
			if rng.Intn(6) == 0 {
				line = spoiltLine(rng, line)
			}
			before := g
			g = checkTwice(t, fmt.Sprintf("manager %d, ask %d: %q", n, k, line), g, line)
			checkNumber(t, "ManagerFault", impl.ManagerFault(g), impl.OK)
			words := strings.Fields(impl.RunManager(before, []string{line}).Replies[0])
			if len(words) > 1 {
				replies[words[1]]++
			}
			if t.Failed() {
				return
			}
		}
	}
	for _, word := range []string{"ok", "error", "kept", "syntax", "version"} {
		if replies[word] < 100 {
			t.Errorf("%s: %d times", word, replies[word])
		}
	}
}

// A whole row of asks sent again is answered alike, too, as long as all are kept.
func TestP48ARowOfAsksThatIsSentTwice(t *testing.T) {
	rng := rand.New(rand.NewSource(2350))
	for n := range 300 {
		g := anyManager(rng)
		g.Kept = nil
		var lines []string
		for id := range int64(20) {
			op := randomClusterOp(rng, g.Cluster)
			line := askOf(op, id+1)
			if line != "" {
				lines = append(lines, line)
			}
		}
		once := checkManagerRun(t, fmt.Sprintf("manager %d", n), g, lines)
		again := checkManagerRun(t, fmt.Sprintf("manager %d again", n), once.Manager, lines)
		checkEqual(t, "one that is no ask", slices.Contains(once.Replies, "0 syntax"), false)
		checkNames(t, fmt.Sprintf("manager %d again", n), again.Replies, once.Replies)
		checkManager(t, fmt.Sprintf("manager %d again", n), again.Manager, once.Manager)
	}
}

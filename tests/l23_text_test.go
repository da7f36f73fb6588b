package tests

import (
	"fmt"
	"math"
	"math/rand"
	"strings"
	"testing"

	"loop.example/g00038/impl"
)

// middleVm has another number in each field.
func middleVm() impl.Vm {
	return impl.Vm{Name: "web-1", Tenant: 2, Cpu: 3, Mem: 40, Zone: 5, Apart: 6}
}

func middleVmWith(change func(v *impl.Vm)) impl.Vm {
	v := middleVm()
	change(&v)
	return v
}

// checkVmText holds VmText to a text, and ReadVm of it to the machine.
func checkVmText(t *testing.T, what string, v impl.Vm, text string) {
	t.Helper()
	checkText(t, what, impl.VmText(v), text)
	checkText(t, what+": said once more", plainVmText(v), text)
	want := impl.Vm{}
	if text != "" {
		want = v
		want.Node, want.Epoch = "", 0
	}
	checkEqual(t, what+": read back", impl.ReadVm(text), want)
}

// checkNoVm holds ReadVm to the zero value.
func checkNoVm(t *testing.T, what string, text string) {
	t.Helper()
	checkEqual(t, fmt.Sprintf("%s: %.100q", what, text), impl.ReadVm(text), impl.Vm{})
	checkEqual(t, fmt.Sprintf("%s: %.100q, said once more", what, text), plainReadVm(text), impl.Vm{})
}

func TestVmTextByItsFields(t *testing.T) {
	checkVmText(t, "the middle", middleVm(), "web-1 tenant=2 cpu=3 mem=40 zone=5 apart=6")
	checkVmText(t, "the least", impl.Vm{Name: "-", Cpu: 1, Mem: 1}, "- tenant=0 cpu=1 mem=1 zone=0 apart=0")
	most := impl.Vm{Name: strings.Repeat("z", 20), Tenant: 7, Cpu: 64, Mem: 1000, Zone: 20, Apart: 20}
	checkVmText(t, "the most", most, "zzzzzzzzzzzzzzzzzzzz tenant=7 cpu=64 mem=1000 zone=20 apart=20")
	checkVmText(t, "nothing", impl.Vm{}, "")
}

func TestVmTextAtEachBound(t *testing.T) {
	for _, field := range []struct {
		what   string
		bounds map[int64]bool
		place  func(v *impl.Vm) *int64
		text   string
	}{
		{"Tenant", map[int64]bool{-1: false, 0: true, 1: true, 6: true, 7: true, 8: false, 9: false}, func(v *impl.Vm) *int64 { return &v.Tenant }, "web-1 tenant=%d cpu=3 mem=40 zone=5 apart=6"},
		{"Cpu", map[int64]bool{-1: false, 0: false, 1: true, 9: true, 10: true, 63: true, 64: true, 65: false}, func(v *impl.Vm) *int64 { return &v.Cpu }, "web-1 tenant=2 cpu=%d mem=40 zone=5 apart=6"},
		{"Mem", map[int64]bool{-1: false, 0: false, 1: true, 99: true, 100: true, 999: true, 1000: true, 1001: false}, func(v *impl.Vm) *int64 { return &v.Mem }, "web-1 tenant=2 cpu=3 mem=%d zone=5 apart=6"},
		{"Zone", map[int64]bool{-1: false, 0: true, 1: true, 19: true, 20: true, 21: false}, func(v *impl.Vm) *int64 { return &v.Zone }, "web-1 tenant=2 cpu=3 mem=40 zone=%d apart=6"},
		{"Apart", map[int64]bool{-1: false, 0: true, 1: true, 19: true, 20: true, 21: false}, func(v *impl.Vm) *int64 { return &v.Apart }, "web-1 tenant=2 cpu=3 mem=40 zone=5 apart=%d"},
	} {
		for n, right := range withEnds(field.bounds) {
			v := middleVm()
			*field.place(&v) = n
			what, text := fmt.Sprintf("%s %d", field.what, n), fmt.Sprintf(field.text, n)
			if right {
				checkVmText(t, what, v, text)
				continue
			}
			checkVmText(t, what, v, "")
			checkNoVm(t, what, text)
		}
	}
}

func TestVmTextOfNames(t *testing.T) {
	for name, right := range clusterNames() {
		v := middleVmWith(func(v *impl.Vm) { v.Name = name })
		text := name + " tenant=2 cpu=3 mem=40 zone=5 apart=6"
		if right {
			checkVmText(t, fmt.Sprintf("%q", name), v, text)
			continue
		}
		checkVmText(t, fmt.Sprintf("%.30q", name), v, "")
		checkNoVm(t, "a name that is none", text)
	}
}

func TestVmTextDoesNotLookAtNodeAndEpoch(t *testing.T) {
	for _, node := range []string{"", "a1", "Not a name", strings.Repeat("x", 70000)} {
		for _, epoch := range []int64{0, 1, -1, 1 << 40, 1<<40 + 1, math.MinInt64, math.MaxInt64} {
			v := middleVmWith(func(v *impl.Vm) { v.Node, v.Epoch = node, epoch })
			checkVmText(t, fmt.Sprintf("Node %.20q, Epoch %d", node, epoch), v, "web-1 tenant=2 cpu=3 mem=40 zone=5 apart=6")
		}
	}
}

// Its tenant may be any that some cluster has, though the cluster at hand has fewer.
func TestVmTextOfATenantThereIsNot(t *testing.T) {
	v := middleVmWith(func(v *impl.Vm) { v.Tenant = 7 })
	checkNumber(t, "in a cluster of three tenants", impl.MayHold(sampleCluster(), "a1", v), impl.ErrForm)
	checkVmText(t, "by itself", v, "web-1 tenant=7 cpu=3 mem=40 zone=5 apart=6")
}

func TestP47ReadVmOfVmTextGivesAMachineBack(t *testing.T) {
	rng := rand.New(rand.NewSource(2347))
	for n := range 20000 {
		v := impl.Vm{
			Name:   string([]byte("abcdefghijklmnopqrstuvwxyz0123456789-")[rng.Intn(37)]) + strings.Repeat(string("q7-"[rng.Intn(3)]), rng.Intn(20)),
			Tenant: rng.Int63n(8), Cpu: 1 + rng.Int63n(64), Mem: 1 + rng.Int63n(1000), Zone: rng.Int63n(21), Apart: rng.Int63n(21),
			Node: []string{"", "n1", "No"}[rng.Intn(3)], Epoch: rng.Int63() - rng.Int63(),
		}
		checkVmText(t, fmt.Sprintf("machine %d", n), v, plainVmText(v))
		back := v
		back.Node, back.Epoch = "", 0
		checkEqual(t, fmt.Sprintf("machine %d back", n), impl.ReadVm(impl.VmText(v)), back)
		if t.Failed() {
			return
		}
	}
}

// Each machine of a right cluster comes back, too.
func TestP47ReadVmOfMachinesOfClusters(t *testing.T) {
	rng := rand.New(rand.NewSource(2348))
	for range 500 {
		for _, v := range anyCluster(rng).Vms {
			back := v
			back.Node, back.Epoch = "", 0
			checkEqual(t, v.Name, impl.ReadVm(impl.VmText(v)), back)
		}
	}
}

func TestReadVmOfWrongWords(t *testing.T) {
	good := "web-1 tenant=2 cpu=3 mem=40 zone=5 apart=6"
	checkEqual(t, "the good one", impl.ReadVm(good), middleVm())
	for _, text := range []string{
		"", " ", "      ", "=", "web-1", "web-1 tenant=2", "web-1 tenant=2 cpu=3 mem=40 zone=5",
		"tenant=2 cpu=3 mem=40 zone=5 apart=6", " tenant=2 cpu=3 mem=40 zone=5 apart=6",
		good + " node=a1", good + " apart=6", good + " epoch=1", "web-1 " + good, good + " x", "place " + good,
		" " + good, good + " ", good + "\n", "\n" + good, good + "\x00", "\t" + good, good + " \n",
		"web-1 cpu=3 tenant=2 mem=40 zone=5 apart=6", "web-1 tenant=2 mem=40 cpu=3 zone=5 apart=6", "web-1 tenant=2 cpu=3 mem=40 apart=6 zone=5",
		"tenant=2 web-1 cpu=3 mem=40 zone=5 apart=6", "web-1 apart=6 zone=5 mem=40 cpu=3 tenant=2",
		"web-1 tenant=2 tenant=2 cpu=3 mem=40 zone=5 apart=6", "web-1 tenant=2 cpu=3 cpu=3 zone=5 apart=6",
		"web-1 Tenant=2 cpu=3 mem=40 zone=5 apart=6", "web-1 tenan=2 cpu=3 mem=40 zone=5 apart=6", "web-1 tenants=2 cpu=3 mem=40 zone=5 apart=6",
		"web-1 tenant:2 cpu=3 mem=40 zone=5 apart=6", "web-1 tenant2 cpu=3 mem=40 zone=5 apart=6", "web-1 tenant==2 cpu=3 mem=40 zone=5 apart=6",
		"web-1 tenant= cpu=3 mem=40 zone=5 apart=6", "web-1 =2 cpu=3 mem=40 zone=5 apart=6", "web-1 2 3 40 5 6", "web-1 tenant cpu mem zone apart",
		"web-1,tenant=2,cpu=3,mem=40,zone=5,apart=6", "web-1\ttenant=2 cpu=3 mem=40 zone=5 apart=6", "web-1 tenant=2\tcpu=3 mem=40 zone=5 apart=6",
		"web-1 tenant =2 cpu=3 mem=40 zone=5 apart=6", "web-1 tenant= 2 cpu=3 mem=40 zone=5 apart=6", "web-1\u00a0tenant=2 cpu=3 mem=40 zone=5 apart=6",
	} {
		checkNoVm(t, "words", text)
	}
	for at := range good {
		if good[at] == ' ' {
			checkNoVm(t, "two blanks", good[:at]+" "+good[at:])
			checkNoVm(t, "no blank", good[:at]+good[at+1:])
		}
	}
}

// Each number is put in turn in a way in which none is told, or out of what may be.
func TestReadVmOfWrongNumbers(t *testing.T) {
	for _, number := range []string{
		"", "-0", "-1", "+1", "01", "00", "0x1", "1.0", "1e1", "1_0", "a", "-", "+", "1-", "1 ", " 1", "\u0661", "1\x00", "\xff", "1a",
		"1001", "100000", "4294967297", "9223372036854775807", "9223372036854775808", "-9223372036854775808", "-9223372036854775809",
		"18446744073709551615", "18446744073709551616", "18446744073709551617", "18446744073709551618", strings.Repeat("9", 100), strings.Repeat("0", 100) + "1",
	} {
		for _, form := range []string{
			"web-1 tenant=%s cpu=3 mem=40 zone=5 apart=6", "web-1 tenant=2 cpu=%s mem=40 zone=5 apart=6", "web-1 tenant=2 cpu=3 mem=%s zone=5 apart=6",
			"web-1 tenant=2 cpu=3 mem=40 zone=%s apart=6", "web-1 tenant=2 cpu=3 mem=40 zone=5 apart=%s",
		} {
			checkNoVm(t, "number", fmt.Sprintf(form, number))
		}
	}
}

func TestReadVmOfLongTexts(t *testing.T) {
	good := "web-1 tenant=2 cpu=3 mem=40 zone=5 apart=6"
	for _, size := range []int{65535, 65536, 65537, 200000} {
		missing := size - len(good)
		checkNoVm(t, "blanks ahead", strings.Repeat(" ", missing)+good)
		checkNoVm(t, "blanks behind", good+strings.Repeat(" ", missing))
		checkNoVm(t, "a long name", strings.Repeat("x", missing)+good)
		checkNoVm(t, "a long number", good+strings.Repeat("6", missing))
		checkNoVm(t, "a number with 0 ahead", strings.Replace(good, "apart=", "apart="+strings.Repeat("0", missing), 1))
		checkNoVm(t, "blanks alone", strings.Repeat(" ", size))
		checkNoVm(t, "bytes 255", strings.Repeat("\xff", size))
	}
}

// Whatever is done to a text, it is read as it is told or not at all; what is read is right of its kind.
func TestReadVmOfRandomTexts(t *testing.T) {
	rng := rand.New(rand.NewSource(2349))
	read := 0
	for range 60000 {
		text := spoiltLine(rng, plainVmText(randomVm(rng, eightTenants())))
		got := impl.ReadVm(text)
		checkEqual(t, fmt.Sprintf("%q", text), got, plainReadVm(text))
		if got != (impl.Vm{}) {
			checkText(t, "told again", impl.VmText(got), text)
			read++
		}
		if t.Failed() {
			return
		}
	}
	if !among(int64(read), 5000, 55000) {
		t.Errorf("%d of 60000 were read", read)
	}
}

// spoiltLine changes a line at one place or a few, or not at all.
func spoiltLine(rng *rand.Rand, line string) string {
	signs := []string{" ", "  ", "0", "1", "9", "-", "=", "a", "A", "V", "\n", "\t", "\x00", "\xff", "é", ""}
	for range rng.Intn(3) {
		if line == "" {
			break
		}
		at := rng.Intn(len(line))
		sign := signs[rng.Intn(len(signs))]
		switch rng.Intn(4) {
		case 0:
			line = line[:at] + sign + line[at:]
		case 1:
			line = line[:at] + sign + line[at+1:]
		case 2:
			line = line[:at] + line[at+1:]
		case 3:
			other := rng.Intn(len(line) + 1)
			line = line[:min(at, other)] + line[max(at, other):]
		}
	}
	return line
}

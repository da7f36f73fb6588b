package tests

import (
	"fmt"
	"math"
	"math/rand"
	"slices"
	"strings"
	"testing"

	"loop.example/g00038/impl"
)

func comeOp(text string) impl.SerialOp { return impl.SerialOp{Kind: impl.SerIn, Text: text} }
func regRead(reg int64) impl.SerialOp  { return impl.SerialOp{Kind: impl.SerRead, Reg: reg} }
func regWrite(reg int64, num int64) impl.SerialOp {
	return impl.SerialOp{Kind: impl.SerWrite, Reg: reg, Num: num}
}

func plainSerialRight(s impl.Serial) bool {
	return len(s.In) <= 16 && len(s.Out) <= 65536 && among(s.Enable, 0, 3)
}

// plainSerialOp is what chapter 12 says of a line's ops, said once more.
func plainSerialOp(s *impl.Serial, op impl.SerialOp) (num int64, code int64) {
	if op.Kind == 1 {
		all := s.In + op.Text
		s.In = all[:min(len(all), 16)]
		s.Lost = s.Lost || len(all) > 16
		return 0, 0
	}
	switch [2]int64{op.Kind, op.Reg} {
	case [2]int64{2, 0}:
		if s.In != "" {
			num, s.In = int64(s.In[0]), s.In[1:]
		}
	case [2]int64{2, 1}:
		num = 2
		if s.In != "" {
			num++
		}
		if s.Lost {
			num += 4
		}
	case [2]int64{2, 2}:
		num = s.Enable
	case [2]int64{3, 0}:
		if len(s.Out) < 65536 {
			s.Out += string([]byte{byte(op.Num & 255)})
		}
	case [2]int64{3, 2}:
		s.Enable = (op.Num%4 + 4) % 4
	case [2]int64{3, 3}:
		s.In, s.Lost = "", false
	case [2]int64{2, 3}, [2]int64{3, 1}:
	default:
		code = impl.ErrForm
	}
	return num, code
}

func plainRunSerial(s impl.Serial, ops []impl.SerialOp) impl.SerialRun {
	if len(ops) > 1000 {
		return impl.SerialRun{Code: impl.ErrSize}
	}
	if !plainSerialRight(s) {
		return impl.SerialRun{Code: impl.ErrForm}
	}
	run := impl.SerialRun{Serial: s}
	for _, op := range ops {
		num, code := plainSerialOp(&run.Serial, op)
		line := run.Serial.Enable >= 2 || run.Serial.Enable == 1 && run.Serial.In != ""
		run.Outs = append(run.Outs, impl.SerialOut{Code: code, Num: num, Line: line})
	}
	return run
}

func checkSerial(t *testing.T, what string, s impl.Serial, ops []impl.SerialOp) impl.SerialRun {
	t.Helper()
	asked := slices.Clone(ops)
	got := impl.RunSerial(s, ops)
	want := plainRunSerial(s, ops)
	checkMemory(t, what+" (Out)", got.Serial.Out, want.Serial.Out)
	whole := got
	got.Serial.Out, want.Serial.Out = "", ""
	checkAlike(t, what+": RunSerial", got, want)
	if !slices.Equal(ops, asked) {
		t.Errorf("%s: the ops handed in are others", what)
	}
	return whole
}

// checkSerialOp does one op that is to answer that and to leave that line.
func checkSerialOp(t *testing.T, what string, s impl.Serial, op impl.SerialOp, out impl.SerialOut, after impl.Serial) {
	t.Helper()
	got := checkSerial(t, what, s, []impl.SerialOp{op})
	checkAlike(t, what, got, impl.SerialRun{Serial: after, Outs: []impl.SerialOut{out}})
}

func TestWhichLinesAreRight(t *testing.T) {
	full := strings.Repeat("o", 65536)
	for what, row := range map[string]struct {
		line  impl.Serial
		right bool
	}{
		"nothing":           {impl.Serial{}, true},
		"In of MaxFifo":     {impl.Serial{In: full[:16]}, true},
		"In of one more":    {impl.Serial{In: full[:17]}, false},
		"In of MaxBytes":    {impl.Serial{In: full}, false},
		"Out of MaxBytes":   {impl.Serial{Out: full}, true},
		"Out of one more":   {impl.Serial{Out: full + "o"}, false},
		"Enable -1":         {impl.Serial{Enable: -1}, false},
		"Enable 0":          {impl.Serial{Enable: 0}, true},
		"Enable 3":          {impl.Serial{Enable: 3}, true},
		"Enable 4":          {impl.Serial{Enable: 4}, false},
		"the least":         {impl.Serial{Enable: math.MinInt64}, false},
		"the greatest":      {impl.Serial{Enable: math.MaxInt64}, false},
		"1 above 2^32":      {impl.Serial{Enable: 1<<32 + 1}, false},
		"Lost":              {impl.Serial{Lost: true}, true},
		"all at its most":   {impl.Serial{In: full[:16], Out: full, Enable: 3, Lost: true}, true},
		"all but one right": {impl.Serial{In: full[:16], Out: full, Enable: 4, Lost: true}, false},
	} {
		for _, ops := range [][]impl.SerialOp{nil, {regRead(impl.SerState)}, {{Kind: 9}}} {
			got := checkSerial(t, what, row.line, ops)
			if !row.right {
				checkAlike(t, what, got, impl.SerialRun{Code: impl.ErrForm})
				continue
			}
			checkNumbers(t, what, []int64{got.Code, int64(len(got.Outs))}, []int64{0, int64(len(ops))})
			checkAlike(t, what, got.Serial == row.line, true)
		}
		got := checkSerial(t, what, row.line, make([]impl.SerialOp, 1001))
		checkAlike(t, what+", too many ops", got, impl.SerialRun{Code: impl.ErrSize})
	}
}

func TestWhatComes(t *testing.T) {
	text := "0123456789abcdefghij"
	for had := range 17 {
		for size := range 21 {
			for _, lost := range []bool{false, true} {
				for reg := int64(-1); reg <= 4; reg++ {
					what := fmt.Sprintf("%d bytes behind %d", size, had)
					s := impl.Serial{In: strings.Repeat("h", had), Out: "out", Lost: lost}
					after := s
					after.In += text[:min(size, 16-had)]
					after.Lost = lost || size > 16-had
					// A register is nothing to what comes, nor is a number.
					checkSerialOp(t, what, s, impl.SerialOp{Kind: impl.SerIn, Reg: reg, Num: 7, Text: text[:size]}, impl.SerialOut{}, after)
				}
			}
		}
	}
	for _, size := range []int{65536, 65537, 1 << 20} {
		checkSerialOp(t, "a very long text", impl.Serial{In: "h"}, comeOp(strings.Repeat("z", size)), impl.SerialOut{}, impl.Serial{In: "h" + strings.Repeat("z", 15), Lost: true})
	}
	checkSerialOp(t, "bytes of any kind", impl.Serial{}, comeOp("\x00\xff\x80\n"), impl.SerialOut{}, impl.Serial{In: "\x00\xff\x80\n"})
}

func TestRegistersThatAreRead(t *testing.T) {
	for _, in := range []string{"", "\x00", "a", "ab", "\xffb", strings.Repeat("f", 16)} {
		for _, lost := range []bool{false, true} {
			for enable := range int64(4) {
				s := impl.Serial{In: in, Out: "told", Enable: enable, Lost: lost}
				what := fmt.Sprintf("%+v", s)
				raised := func(s impl.Serial) bool { return enable >= 2 || enable == 1 && s.In != "" }
				after, first, state := s, int64(0), int64(2)
				if in != "" {
					after.In, first, state = in[1:], int64(in[0]), 3
				}
				if lost {
					state += 4
				}
				checkSerialOp(t, what+": SerData", s, regRead(impl.SerData), impl.SerialOut{Num: first, Line: raised(after)}, after)
				checkSerialOp(t, what+": SerState", s, regRead(impl.SerState), impl.SerialOut{Num: state, Line: raised(s)}, s)
				checkSerialOp(t, what+": SerEnable", s, regRead(impl.SerEnable), impl.SerialOut{Num: enable, Line: raised(s)}, s)
				checkSerialOp(t, what+": SerClear", s, regRead(impl.SerClear), impl.SerialOut{Line: raised(s)}, s)
				// A read takes no notice of a number or a text.
				checkSerialOp(t, what+": more", s, impl.SerialOp{Kind: impl.SerRead, Reg: impl.SerEnable, Num: 9, Text: "text"}, impl.SerialOut{Num: enable, Line: raised(s)}, s)
			}
		}
	}
}

func TestRegistersThatAreWritten(t *testing.T) {
	numbers := []int64{0, 1, 2, 3, 4, 5, 65, 127, 128, 255, 256, 257, 511, 65536 + 66, 1<<32 - 1, 1 << 32, 1<<40 + 67, -1, -2, -3, -4, -128, -255, -256, math.MinInt64, math.MaxInt64}
	for _, num := range numbers {
		for enable := range int64(4) {
			for _, in := range []string{"", "ab"} {
				for _, lost := range []bool{false, true} {
					s := impl.Serial{In: in, Out: "told", Enable: enable, Lost: lost}
					what := fmt.Sprintf("%+v, number %d", s, num)
					raised := func(s impl.Serial) bool { return s.Enable >= 2 || s.Enable == 1 && s.In != "" }
					told := s
					told.Out += string([]byte{byte(uint64(num) % 256)})
					checkSerialOp(t, what+": SerData", s, regWrite(impl.SerData, num), impl.SerialOut{Line: raised(s)}, told)
					checkSerialOp(t, what+": SerState", s, regWrite(impl.SerState, num), impl.SerialOut{Line: raised(s)}, s)
					put := s
					put.Enable = int64(uint64(num) % 4)
					checkSerialOp(t, what+": SerEnable", s, regWrite(impl.SerEnable, num), impl.SerialOut{Line: raised(put)}, put)
					cleared := impl.Serial{Out: "told", Enable: enable}
					checkSerialOp(t, what+": SerClear", s, regWrite(impl.SerClear, num), impl.SerialOut{Line: raised(cleared)}, cleared)
				}
			}
		}
	}
}

func TestOpsThatALineRefuses(t *testing.T) {
	for enable := range int64(4) {
		for _, in := range []string{"", "ab"} {
			s := impl.Serial{In: in, Out: "told", Enable: enable, Lost: true}
			raised := enable >= 2 || enable == 1 && in != ""
			for _, kind := range []int64{-1, 0, 4, 5, 258, 1<<32 + 1, math.MinInt64, math.MaxInt64} {
				for reg := int64(-1); reg <= 4; reg++ {
					checkSerialOp(t, fmt.Sprintf("kind %d, register %d", kind, reg), s, impl.SerialOp{Kind: kind, Reg: reg, Num: 3, Text: "t"}, impl.SerialOut{Code: impl.ErrForm, Line: raised}, s)
				}
			}
			for _, reg := range []int64{-1, 4, 5, 256, 1 << 32, math.MinInt64, math.MaxInt64} {
				checkSerialOp(t, fmt.Sprintf("register %d read", reg), s, regRead(reg), impl.SerialOut{Code: impl.ErrForm, Line: raised}, s)
				checkSerialOp(t, fmt.Sprintf("register %d written", reg), s, regWrite(reg, 3), impl.SerialOut{Code: impl.ErrForm, Line: raised}, s)
			}
		}
	}
	// Behind an op with a code the others are done.
	got := checkSerial(t, "on", impl.Serial{}, []impl.SerialOp{comeOp("a"), {Kind: 7}, regRead(9), regRead(impl.SerData), regWrite(-1, 0), regWrite(impl.SerData, 'z')})
	checkAlike(t, "on", got, impl.SerialRun{Serial: impl.Serial{Out: "z"}, Outs: []impl.SerialOut{{}, {Code: impl.ErrForm}, {Code: impl.ErrForm}, {Num: 'a'}, {Code: impl.ErrForm}, {}}})
}

func TestWhatIsTold(t *testing.T) {
	full := strings.Repeat("o", 65536)
	got := checkSerial(t, "the last place", impl.Serial{Out: full[1:]}, []impl.SerialOp{regWrite(0, 'x'), regWrite(0, 'y'), regRead(impl.SerState), regWrite(0, 'z')})
	checkText(t, "the last place", got.Serial.Out, full[1:]+"x")
	// What has no place to be told is lost; Lost is for what comes.
	checkAlike(t, "no place", got.Outs, []impl.SerialOut{{}, {}, {Num: 2}, {}})
	checkAlike(t, "no place", got.Serial.Lost, false)
	got = checkSerial(t, "no place", impl.Serial{Out: full}, []impl.SerialOp{regWrite(0, 'x')})
	checkText(t, "no place", got.Serial.Out, full)
	var ops []impl.SerialOp
	want := ""
	for n := range int64(1000) {
		ops = append(ops, regWrite(impl.SerData, n*7))
		want += string([]byte{byte(n * 7)})
	}
	checkText(t, "MaxList ops", checkSerial(t, "MaxList ops", impl.Serial{Out: "+"}, ops).Serial.Out, "+"+want)
	checkAlike(t, "one more", checkSerial(t, "one more", impl.Serial{}, append(ops, regRead(0))), impl.SerialRun{Code: impl.ErrSize})
}

func TestTheLineFromOpToOp(t *testing.T) {
	ops := []impl.SerialOp{
		regWrite(impl.SerEnable, 1), comeOp("ab"), regRead(impl.SerData), regRead(impl.SerData), regRead(impl.SerData), comeOp(""),
		comeOp(strings.Repeat("x", 17)), regRead(impl.SerState), {Kind: 0}, regWrite(impl.SerClear, 0), regRead(impl.SerState),
		regWrite(impl.SerEnable, 2), regWrite(impl.SerEnable, 4), comeOp("c"), regWrite(impl.SerEnable, 7), regWrite(impl.SerClear, 0), {Kind: 4}, regWrite(impl.SerEnable, 1),
	}
	got := checkSerial(t, "op by op", impl.Serial{}, ops)
	checkAlike(t, "op by op", got.Outs, []impl.SerialOut{
		{}, {Line: true}, {Num: 'a', Line: true}, {Num: 'b'}, {}, {},
		{Line: true}, {Num: 7, Line: true}, {Code: impl.ErrForm, Line: true}, {}, {Num: 2},
		{Line: true}, {}, {}, {Line: true}, {Line: true}, {Code: impl.ErrForm, Line: true}, {},
	})
}

func randomSerialOp(rng *rand.Rand) impl.SerialOp {
	text := randomMemory(rng, 1)[:oneOf(rng, 0, 1, 2, 5, 16, 17, 40)]
	op := impl.SerialOp{Kind: 1 + rng.Int63n(3), Reg: rng.Int63n(4), Num: rng.Int63() - rng.Int63(), Text: text}
	switch rng.Intn(8) {
	case 0:
		op.Kind = oneOf(rng, -1, 0, 4, 9)
	case 1:
		op.Reg = oneOf(rng, -1, 4, 9)
	case 2, 3:
		op.Kind, op.Reg = impl.SerRead, impl.SerData
	}
	return op
}

func TestLinesAgainstThePlainOne(t *testing.T) {
	rng := rand.New(rand.NewSource(116))
	for range 4000 {
		s := impl.Serial{In: randomMemory(rng, 1)[:rng.Intn(17)], Out: randomMemory(rng, 1)[:rng.Intn(40)], Enable: rng.Int63n(4), Lost: rng.Intn(3) == 0}
		ops := make([]impl.SerialOp, rng.Intn(40))
		for n := range ops {
			ops[n] = randomSerialOp(rng)
		}
		got := checkSerial(t, fmt.Sprintf("%+v, %+v", s, ops), s, ops)
		cut := rng.Intn(len(ops) + 1)
		first := impl.RunSerial(s, ops[:cut])
		second := impl.RunSerial(first.Serial, ops[cut:])
		checkAlike(t, "in two parts", []any{slices.Concat(first.Outs, second.Outs), second.Serial}, []any{got.Outs, got.Serial})
		if t.Failed() {
			return
		}
	}
}

func TestP20WhatIsReadComesInOrder(t *testing.T) {
	rng := rand.New(rand.NewSource(201))
	for round := range 1000 {
		had := randomMemory(rng, 1)[:rng.Intn(17)]
		came, inLine := had, len(had)
		var ops []impl.SerialOp
		for range rng.Intn(200) {
			// What else is asked and told is nothing to the order.
			switch rng.Intn(4) {
			case 0:
				text := randomMemory(rng, 1)[:rng.Intn(17-inLine)]
				came, inLine = came+text, inLine+len(text)
				ops = append(ops, comeOp(text))
			case 1:
				inLine = max(inLine-1, 0)
				ops = append(ops, regRead(impl.SerData))
			case 2:
				ops = append(ops, regRead(1+rng.Int63n(4)))
			case 3:
				ops = append(ops, regWrite(rng.Int63n(3), rng.Int63()))
			}
		}
		for range inLine {
			ops = append(ops, regRead(impl.SerData))
		}
		if len(ops) > 1000 {
			continue
		}
		got := impl.RunSerial(impl.Serial{In: had}, ops)
		read, waits := "", len(had)
		for n, op := range ops {
			switch {
			case op.Kind == impl.SerIn:
				waits += len(op.Text)
			case op == regRead(impl.SerData) && waits > 0:
				read, waits = read+string([]byte{byte(got.Outs[n].Num)}), waits-1
			case op == regRead(impl.SerData):
				checkNumber(t, "nothing is there", got.Outs[n].Num, 0)
			}
		}
		checkText(t, fmt.Sprintf("round %d", round), read, came)
		checkText(t, fmt.Sprintf("round %d: what is left", round), got.Serial.In, "")
	}
}

// What is lost is what came last; the order of the rest is as it came, too.
func TestP20WhatIsLostIsNotRead(t *testing.T) {
	rng := rand.New(rand.NewSource(202))
	for range 500 {
		text := randomMemory(rng, 1)
		want, at := "", 0
		var ops []impl.SerialOp
		for left := 0; len(ops) < 300; {
			if rng.Intn(3) == 0 {
				size := rng.Intn(20)
				piece := strings.Repeat(text[at%256:at%256+1], size)
				at++
				kept := min(size, 16-left)
				want, left = want+piece[:kept], left+kept
				ops = append(ops, comeOp(piece))
			} else if left > 0 {
				left--
				ops = append(ops, regRead(impl.SerData))
			}
		}
		ops = append(ops, slices.Repeat([]impl.SerialOp{regRead(impl.SerData)}, 16)...)
		read := ""
		for n, out := range impl.RunSerial(impl.Serial{}, ops).Outs {
			if ops[n].Kind == impl.SerRead && len(read) < len(want) {
				read += string([]byte{byte(out.Num)})
			}
		}
		checkText(t, "what was kept", read, want)
	}
}

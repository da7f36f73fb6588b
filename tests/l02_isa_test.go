package tests

import (
	"fmt"
	"math"
	"reflect"
	"strings"
	"testing"

	"loop.example/g00038/impl"
)

// opForm is a row of chapter 3: each letter of parts is an operand.
// a, b, c are registers, x, y, z vectors at their places, i a short Imm, h that of high, j that of call.
type opForm struct {
	op    int64
	name  string
	parts string
}

func opForms() []opForm {
	return []opForm{
		{1, "add", "abc"}, {2, "sub", "abc"}, {3, "and", "abc"}, {4, "or", "abc"}, {5, "xor", "abc"},
		{6, "shl", "abc"}, {7, "shr", "abc"}, {8, "sar", "abc"}, {9, "mul", "abc"}, {10, "div", "abc"},
		{11, "rem", "abc"}, {12, "less", "abc"}, {13, "below", "abc"},
		{16, "addi", "abi"}, {17, "andi", "abi"}, {18, "ori", "abi"}, {19, "xori", "abi"}, {20, "high", "ah"},
		{24, "load", "abi"}, {25, "loadb", "abi"}, {26, "store", "abi"}, {27, "storeb", "abi"},
		{28, "fadd", "abc"}, {29, "swap", "abc"}, {30, "ifsame", "abc"},
		{32, "eq", "abi"}, {33, "ne", "abi"}, {34, "lt", "abi"}, {35, "lo", "abi"}, {36, "call", "aj"}, {37, "jump", "abi"},
		{40, "sys", ""}, {41, "ret", ""}, {42, "wait", ""}, {43, "getc", "ai"}, {44, "putc", "ai"},
		{45, "flush", ""}, {46, "in", "ai"}, {47, "out", "ai"}, {48, "hyper", "i"}, {49, "halt", ""},
		{52, "vload", "xb"}, {53, "vstore", "xb"}, {54, "vadd", "xyz"},
	}
}

func partBounds(part rune) (least int64, most int64) {
	switch part {
	case 'x', 'y', 'z':
		return 0, 3
	case 'i':
		return -2048, 2047
	case 'h':
		return 0, 1048575
	case 'j':
		return -524288, 524287
	default:
		return 0, 15
	}
}

func partPlace(i *impl.Instr, part rune) *int64 {
	switch part {
	case 'a', 'x':
		return &i.A
	case 'b', 'y':
		return &i.B
	case 'c', 'z':
		return &i.C
	default:
		return &i.Imm
	}
}

// partValues are the ends of a part's bounds and some between.
func partValues(part rune) []int64 {
	least, most := partBounds(part)
	values := []int64{least, least + 1, least + 2, most - 1, most}
	if least < 0 {
		values = append(values, -1, 0, 1)
	}
	return values
}

// instrsOf are all instructions of an op whose operands are each one of partValues.
func instrsOf(form opForm) []impl.Instr {
	all := []impl.Instr{{Op: form.op}}
	for _, part := range form.parts {
		var more []impl.Instr
		for _, i := range all {
			for _, value := range partValues(part) {
				*partPlace(&i, part) = value
				more = append(more, i)
			}
		}
		all = more
	}
	return all
}

// wordOfInstr puts the word together by multiplying, not by bits.
func wordOfInstr(i impl.Instr) int64 {
	word := i.Op * 16777216
	word += i.A * 1048576
	word += i.B * 65536
	word += i.C * 4096
	imm := i.Imm
	if imm < 0 && i.Op == 36 {
		imm += 1048576
	} else if imm < 0 {
		imm += 4096
	}
	return word + imm
}

func textOfInstr(form opForm, i impl.Instr) string {
	text := form.name
	for at, part := range form.parts {
		between := ", "
		if at == 0 {
			between = " "
		}
		letter := "r"
		if strings.ContainsRune("xyz", part) {
			letter = "v"
		}
		if strings.ContainsRune("ihj", part) {
			letter = ""
		}
		text += fmt.Sprintf("%s%s%d", between, letter, *partPlace(&i, part))
	}
	return text
}

func everyInstr() []impl.Instr {
	var all []impl.Instr
	for _, form := range opForms() {
		all = append(all, instrsOf(form)...)
	}
	return all
}

func checkRead(t *testing.T, what string, got impl.InstrRead, want impl.InstrRead) {
	t.Helper()
	if got != want {
		t.Errorf("%s: got %+v, want %+v", what, got, want)
	}
}

func TestP3DecodeOfEncodeGivesBack(t *testing.T) {
	for _, i := range everyInstr() {
		word := impl.Encode(i)
		checkRead(t, fmt.Sprintf("Decode(Encode(%+v))", i), impl.Decode(word), impl.InstrRead{Good: true, Instr: i})
	}
}

func TestP3ReadInstrOfInstrTextGivesBack(t *testing.T) {
	for _, i := range everyInstr() {
		text := impl.InstrText(i)
		checkRead(t, fmt.Sprintf("ReadInstr(%q)", text), impl.ReadInstr(text), impl.InstrRead{Good: true, Instr: i})
	}
}

func TestP3EveryRegisterAndShortImm(t *testing.T) {
	for n := range int64(16) {
		i := impl.Instr{Op: impl.OpSub, A: n, B: 15 - n, C: n ^ 5}
		checkRead(t, "Decode(Encode(sub))", impl.Decode(impl.Encode(i)), impl.InstrRead{Good: true, Instr: i})
		checkRead(t, "ReadInstr(InstrText(sub))", impl.ReadInstr(impl.InstrText(i)), impl.InstrRead{Good: true, Instr: i})
	}
	for imm := int64(-2048); imm <= 2047; imm++ {
		i := impl.Instr{Op: impl.OpLoadB, A: 3, B: 12, Imm: imm}
		checkRead(t, "Decode(Encode(loadb))", impl.Decode(impl.Encode(i)), impl.InstrRead{Good: true, Instr: i})
		checkRead(t, "ReadInstr(InstrText(loadb))", impl.ReadInstr(impl.InstrText(i)), impl.InstrRead{Good: true, Instr: i})
	}
}

func TestEncodeAndInstrTextOfEveryOp(t *testing.T) {
	for _, form := range opForms() {
		for _, i := range instrsOf(form) {
			what := fmt.Sprintf("%+v", i)
			checkNumber(t, "InstrFault "+what, impl.InstrFault(i), impl.OK)
			checkNumber(t, "Encode "+what, impl.Encode(i), wordOfInstr(i))
			checkText(t, "InstrText "+what, impl.InstrText(i), textOfInstr(form, i))
		}
	}
}

// checkFault holds all that is said of an instruction with a fault.
func checkFault(t *testing.T, i impl.Instr) {
	t.Helper()
	what := fmt.Sprintf("%+v", i)
	checkNumber(t, "InstrFault "+what, impl.InstrFault(i), impl.ErrForm)
	checkNumber(t, "Encode "+what, impl.Encode(i), -1)
	checkText(t, "InstrText "+what, impl.InstrText(i), "")
}

func TestOperandsOutOfBoundsAreFaults(t *testing.T) {
	for _, form := range opForms() {
		for _, part := range form.parts {
			least, most := partBounds(part)
			for _, value := range []int64{least - 1, most + 1, least - 4096, most + 4096, least - 1048576, most + 1048576, 1 << 32, math.MinInt64, math.MaxInt64} {
				i := impl.Instr{Op: form.op}
				*partPlace(&i, part) = value
				checkFault(t, i)
			}
		}
	}
}

func TestOperandsThatAnOpHasNotAreFaults(t *testing.T) {
	for _, form := range opForms() {
		for _, part := range "abci" {
			probe := impl.Instr{Op: form.op}
			*partPlace(&probe, part) = 1
			has := false
			for _, own := range form.parts {
				has = has || partPlace(&probe, own) == partPlace(&probe, part)
			}
			if has {
				continue
			}
			for _, value := range []int64{1, -1, 3, 2047, math.MaxInt64, math.MinInt64} {
				*partPlace(&probe, part) = value
				checkFault(t, probe)
			}
		}
	}
}

func TestWhatIsNoOpIsAFault(t *testing.T) {
	known := map[int64]bool{}
	for _, form := range opForms() {
		known[form.op] = true
	}
	for op := int64(-300); op <= 600; op++ {
		if !known[op] {
			checkFault(t, impl.Instr{Op: op})
		}
		if !known[op] && op >= 0 && op < 256 {
			checkRead(t, fmt.Sprintf("Decode of op %d", op), impl.Decode(op<<24), impl.InstrRead{})
		}
	}
	for _, op := range []int64{math.MinInt64, math.MaxInt64, 1 << 32, 1<<32 + 1, 1<<40 + impl.OpHalt} {
		checkFault(t, impl.Instr{Op: op})
	}
}

func TestDecodeRefusesBitsInPlacesThatAnOpHasNot(t *testing.T) {
	for _, form := range opForms() {
		mask := int64(0)
		for _, part := range form.parts {
			switch part {
			case 'a':
				mask |= 0xF00000
			case 'b':
				mask |= 0xF0000
			case 'c':
				mask |= 0xF000
			case 'x':
				mask |= 0x300000
			case 'y':
				mask |= 0x30000
			case 'z':
				mask |= 0x3000
			case 'i':
				mask |= 0xFFF
			default:
				mask |= 0xFFFFF
			}
		}
		for bit := range 24 {
			word := form.op<<24 | 1<<bit
			read := impl.Decode(word)
			if want := mask>>bit&1 == 1; read.Good != want {
				t.Errorf("Decode(%#x) of %s with bit %d: Good is %v, want %v", word, form.name, bit, read.Good, want)
			}
			if !read.Good && read != (impl.InstrRead{}) {
				t.Errorf("Decode(%#x): got %+v, want nothing", word, read)
			}
		}
	}
}

func TestDecodeRefusesWhatIsNoWord(t *testing.T) {
	halt := int64(impl.OpHalt) << 24
	for _, word := range []int64{
		-1, -2, math.MinInt64, math.MaxInt64, 1 << 32, 1<<32 - 1, 0,
		1<<32 + halt, halt - 1<<32, 1<<40 + halt, math.MinInt64 + halt, 0x01123000 - 1<<32, 0x01123000 + 1<<56,
	} {
		checkRead(t, fmt.Sprintf("Decode(%d)", word), impl.Decode(word), impl.InstrRead{})
	}
}

func TestDecodeIsTheInverseOfEncode(t *testing.T) {
	word := int64(12345)
	for range 200000 {
		word = (word*6364136223846793 + 1442695040888963407) & (1<<62 - 1)
		// Mostly words of real ops, so that many are good.
		probe := word >> 20 & (1<<30 - 1)
		if word&3 == 0 {
			probe &^= 0xFFF
		}
		read := impl.Decode(probe)
		if read.Good && (impl.Encode(read.Instr) != probe || wordOfInstr(read.Instr) != probe) {
			t.Fatalf("Decode(%#x) is %+v, whose word is %#x", probe, read.Instr, impl.Encode(read.Instr))
		}
	}
}

func TestReadInstrRefusesOtherTexts(t *testing.T) {
	for _, text := range []string{
		"", " ", "\n", "add", "add ", "add r1", "add r1, r2", "add r1, r2, ", "add r1, r2, r3, ", "add r1, r2, r3, r4",
		" add r1, r2, r3", "add r1, r2, r3 ", "add  r1, r2, r3", "add r1 , r2, r3", "add r1,r2, r3", "add r1,  r2, r3",
		"add\tr1, r2, r3", "add r1;r2;r3", "Add r1, r2, r3", "ADD r1, r2, r3", "add R1, r2, r3", "add r1, r2, r3\n",
		"add r01, r2, r3", "add r1, r00, r3", "add r+1, r2, r3", "add r-0, r2, r3", "add r-1, r2, r3", "add r16, r2, r3",
		"add r, r2, r3", "add 1, 2, 3", "add v1, v2, v3", "add rr1, r2, r3", "add r1, r2, 3", "add r1, r2, @a",
		"add r 1, r2, r3", "add r1_0, r2, r3", "add r0x1, r2, r3",
		"addi r1, r0, 2048", "addi r1, r0, -2049", "addi r1, r0, -0", "addi r1, r0, +1", "addi r1, r0, 01", "addi r1, r0, 00",
		"addi r1, r0, -01", "addi r1, r0, --1", "addi r1, r0, r1", "addi r1, r0, 0x1", "addi r1, r0, ", "addi r1, r0, 1.0",
		"addi r1, r0, 1_0", "addi r1, r0, @a", "addi r1, r0, 18446744073709551617", "addi r1, r0, 9223372036854775808",
		"high r1, -1", "high r1, 1048576", "high r1, r2, 5", "call r1, 524288", "call r1, -524289", "call 5", "call r1, @f",
		"getc r1, r2, 0", "getc r1", "in r1", "out 1, r2", "hyper", "hyper ", "hyper r1", "hyper 1, 2", "hyper 2048", "hyper  1",
		"halt ", " halt", "halt 0", "halt r0", "halt, ", "halts", "hal", "sys\n", "ret\t", "wait\x00",
		"vload r1, r2", "vload v1, v2", "vload v4, r2", "vload v1, r16", "vload v1", "vstore v1, r2, 0",
		"vadd v0, v1, v4", "vadd v4, v1, v0", "vadd v0, v4, v0", "vadd v0, v1, r2", "vadd v00, v1, v2", "vadd v1, v2",
		"nop", "a:", ".word 1", "# add r1, r2, r3", "add r1, r2, r3 # x", "\x00", "\xff",
	} {
		checkRead(t, fmt.Sprintf("ReadInstr(%q)", text), impl.ReadInstr(text), impl.InstrRead{})
	}
}

func TestReadInstrOfLongTexts(t *testing.T) {
	for _, text := range []string{
		strings.Repeat(" ", impl.MaxBytes), strings.Repeat(" ", impl.MaxBytes+1),
		"hyper " + strings.Repeat("1", impl.MaxBytes-6), "hyper " + strings.Repeat("1", impl.MaxBytes-5),
		"halt" + strings.Repeat(" ", impl.MaxBytes-3), strings.Repeat("0", impl.MaxBytes+1),
		"add r1" + strings.Repeat(", r1", impl.MaxBytes/4-2),
	} {
		checkRead(t, fmt.Sprintf("ReadInstr of %d bytes", len(text)), impl.ReadInstr(text), impl.InstrRead{})
	}
}

func checkAssembled(t *testing.T, what string, got impl.Assembled, want impl.Assembled) {
	t.Helper()
	same := len(got.Words) == 0 && len(want.Words) == 0 || reflect.DeepEqual(got.Words, want.Words)
	if got.Code != want.Code || got.Line != want.Line || !same {
		t.Errorf("%s: got %+v, want %+v", what, got, want)
	}
}

// checkWords holds a text against the words that it is to become.
func checkWords(t *testing.T, text string, base int64, words ...int64) {
	t.Helper()
	checkAssembled(t, fmt.Sprintf("Assemble(%q, %d)", text, base), impl.Assemble(text, base), impl.Assembled{Words: words})
}

func checkRefused(t *testing.T, text string, base int64, code int64, line int64) {
	t.Helper()
	what := fmt.Sprintf("Assemble(%q, %d)", text, base)
	if len(text) > 200 {
		what = fmt.Sprintf("Assemble of %d bytes, from %q on, at %d", len(text), text[:40], base)
	}
	checkAssembled(t, what, impl.Assemble(text, base), impl.Assembled{Code: code, Line: line})
}

func TestP4TextsOfInstructionsAreAssembledToTheirWords(t *testing.T) {
	all := everyInstr()
	bases := []int64{0, 4, 2044, 2048, 4096, 65536, 1<<20 - 4, 1 << 20}
	for from := 0; from < len(all); from += impl.MaxLines {
		part := all[from:min(from+impl.MaxLines, len(all))]
		var texts []string
		var words []int64
		for _, i := range part {
			texts = append(texts, impl.InstrText(i))
			words = append(words, wordOfInstr(i))
		}
		text := strings.Join(texts, "\n")
		for _, base := range bases {
			checkAssembled(t, fmt.Sprintf("instructions from %d on at %d", from, base), impl.Assemble(text, base), impl.Assembled{Words: words})
			checkAssembled(t, fmt.Sprintf("instructions from %d on at %d, all ended", from, base), impl.Assemble(text+"\n", base), impl.Assembled{Words: words})
		}
	}
}

func TestP4OfNoneAndOfMaxLines(t *testing.T) {
	checkWords(t, "", 0)
	checkWords(t, "", 1<<20)
	text := strings.Repeat("hyper -1\n", impl.MaxLines)
	words := make([]int64, impl.MaxLines)
	for i := range words {
		words[i] = 0x30000FFF
	}
	checkAssembled(t, "MaxLines instructions", impl.Assemble(text, 8), impl.Assembled{Words: words})
	checkRefused(t, text+"hyper -1", 8, impl.ErrCount, 0)
}

func TestAssembleRefusesOtherBases(t *testing.T) {
	for _, base := range []int64{-1, -4, 1, 2, 3, 5, 1<<20 - 1, 1<<20 + 1, 1<<20 + 4, 1 << 21, 1 << 32, math.MinInt64, math.MaxInt64, math.MaxInt64 - 3} {
		checkRefused(t, "halt", base, impl.ErrForm, 0)
		checkRefused(t, "", base, impl.ErrForm, 0)
		checkRefused(t, "bad", base, impl.ErrForm, 0)
		checkRefused(t, strings.Repeat("\n", impl.MaxLines+1), base, impl.ErrForm, 0)
		checkRefused(t, strings.Repeat("\n", impl.MaxBytes+1), base, impl.ErrSize, 0)
	}
}

func TestAssembleRefusesLongTexts(t *testing.T) {
	comment := "#" + strings.Repeat("x", impl.MaxBytes-1)
	checkAssembled(t, "a comment of MaxBytes", impl.Assemble(comment, 0), impl.Assembled{})
	checkRefused(t, comment+"x", 0, impl.ErrSize, 0)
	checkRefused(t, strings.Repeat("bad\n", impl.MaxBytes/4)+"b", 0, impl.ErrSize, 0)
}

func TestAssembleCountsLines(t *testing.T) {
	lines := strings.Repeat("\n", impl.MaxLines)
	checkWords(t, "\n", 0)
	checkWords(t, lines, 0)
	checkWords(t, lines[1:]+"halt", 0, 0x31000000)
	checkWords(t, lines[1:]+"halt\n", 0, 0x31000000)
	checkRefused(t, lines+"\n", 0, impl.ErrCount, 0)
	checkRefused(t, lines+"halt", 0, impl.ErrCount, 0)
	checkRefused(t, lines+" ", 0, impl.ErrCount, 0)
	checkRefused(t, "bad"+lines+" ", 0, impl.ErrCount, 0)
	checkRefused(t, lines[1:]+"bad", 0, impl.ErrSyntax, impl.MaxLines)
	checkRefused(t, strings.Repeat("\n", impl.MaxBytes), 0, impl.ErrCount, 0)
}

func TestAssembleBlanksAndComments(t *testing.T) {
	checkWords(t, " \thalt\t \n\t\n  \n#\n \t# halt\n#x\x00\xff\r\"\n\thyper 1", 0, 0x31000000, 0x30000001)
	checkWords(t, "halt\n\nhalt\n", 0, 0x31000000, 0x31000000)
	checkWords(t, " a:\t\n\t.word 5 \n  .text \"x\"  \n\t.space 1\t\n eq r0, r0, @a ", 0, 5, 120, 0, 0x20000FFD)
	for _, line := range []string{"halt # x", "halt#", "\rhalt", "halt\r", "\vhalt", "halt\x00", "\u00a0halt", "a: # x", "a: halt", ".word 1 # x", "/", ";"} {
		checkRefused(t, "halt\n"+line+"\nbad", 0, impl.ErrSyntax, 2)
	}
}

func TestAssembleWordLines(t *testing.T) {
	checkWords(t, ".word 0\n.word 1\n.word -1\n.word -2147483648\n.word 4294967295\n.word 2147483648", 0, 0, 1, 0xFFFFFFFF, 0x80000000, 0xFFFFFFFF, 0x80000000)
	for _, line := range []string{
		".word", ".word ", ".word  1", ".word\t1", ".word 01", ".word -0", ".word +1", ".word 0x1", ".word 1 2", ".word 1, 2", ".word r1",
		".word -2147483649", ".word 4294967296", ".word 9223372036854775808", ".word -9223372036854775808", ".word 99999999999999999999", ".word @a", ".Word 1", "word 1", ".words 1", ". 1", ".", ".word1",
	} {
		checkRefused(t, line, 0, impl.ErrSyntax, 1)
	}
}

func TestAssembleTextLines(t *testing.T) {
	checkWords(t, ".text \"\"", 0)
	checkWords(t, ".text \"a\"", 0, 0x61)
	checkWords(t, ".text \"abc\"", 0, 0x636261)
	checkWords(t, ".text \"abcd\"", 0, 0x64636261)
	checkWords(t, ".text \"abcde\"", 0, 0x64636261, 0x65)
	checkWords(t, ".text \" #:~\"", 0, 0x7E3A2320)
	checkWords(t, ".text \" \"", 0, 32)
	for b := range 256 {
		line := ".text \"" + string([]byte{byte(b)}) + "\""
		switch {
		case b == 10:
			checkRefused(t, line, 0, impl.ErrSyntax, 1)
		case b >= 32 && b <= 126 && b != '"' && b != 92:
			checkWords(t, line, 0, int64(b))
		default:
			checkRefused(t, line, 0, impl.ErrSyntax, 1)
		}
	}
	for _, line := range []string{".text", ".text ", ".text \"", ".text a", ".text \"a", ".text a\"", ".text  \"a\"", ".text\"a\"", ".text\t\"a\"", ".text \"a\"b\"", ".text \"a\":", ".text 'a'", ".text \"a\" \"b\""} {
		checkRefused(t, line, 0, impl.ErrSyntax, 1)
	}
}

func TestAssembleSpaceLines(t *testing.T) {
	checkWords(t, ".space 0", 0)
	checkWords(t, ".space 3\nhalt", 0, 0, 0, 0, 0x31000000)
	checkAssembled(t, ".space 1000", impl.Assemble(".space 1000", 0), impl.Assembled{Words: make([]int64, 1000)})
	for _, line := range []string{".space", ".space ", ".space -1", ".space 1001", ".space 01", ".space -0", ".space +1", ".space  1", ".space 9223372036854775807", ".space -9223372036854775808", ".space @a", ".spaces 1"} {
		checkRefused(t, line, 0, impl.ErrSyntax, 1)
	}
}

func TestAssembleLabelNames(t *testing.T) {
	for _, name := range []string{"a", "z", "_", "_0", "a9", "abcdefghijklmnopqrst", "uvwxyz0123456789_", "halt", "r1", "word"} {
		checkWords(t, name+":\nhalt\neq r0, r0, @"+name, 0, 0x31000000, 0x20000FFF)
	}
	for _, name := range []string{"", "0", "9a", "A", "aB", "a b", "a-b", "a.b", ".a", "@a", "a:", "a ", "abcdefghijklmnopqrstu", "\u00e9", "a\x00"} {
		checkRefused(t, name+":", 0, impl.ErrSyntax, 1)
	}
	for _, name := range []string{"", "0", "A", "a b", "a-", "@a", "abcdefghijklmnopqrstu", "a,", "a:x"} {
		checkRefused(t, "eq r0, r0, @"+name, 0, impl.ErrSyntax, 1)
	}
}

func TestAssembleNamesStandForImm(t *testing.T) {
	for _, op := range []string{"eq", "ne", "lt", "lo"} {
		i := impl.ReadInstr(op + " r1, r2, 0").Instr
		checkWords(t, "hyper 0\nl:\n"+op+" r1, r2, @l\n"+op+" r1, r2, @m\nhyper 0\nm:\n"+op+" r1, r2, @l", 4096,
			0x30000000, impl.Encode(i), impl.Encode(i)+2, 0x30000000, impl.Encode(i)+0xFFD)
	}
	checkWords(t, "call r1, @f\nhalt\nf:\ncall r1, @f\ncall r2, @f", 1<<20, 0x24100002, 0x31000000, 0x24100000, 0x242FFFFF)
	for _, row := range []struct {
		base int64
		low  int64
		high int64
	}{{0, 0x00C, 0}, {0x7F0, 0x7FC, 0}, {0x7F4, 0x800, 0}, {0x12344, 0x350, 0x12}, {0xFFC, 0x008, 1}, {1 << 20, 0x00C, 0x100}, {0xFFFF0, 0xFFC, 0xFF}} {
		checkWords(t, "high r1, @t\nori r1, r1, @t\nload r2, r3, @t\nt:", row.base, 0x14100000+row.high, 0x12110000+row.low, 0x18230000+row.low)
	}
	for _, form := range opForms() {
		if !strings.ContainsAny(form.parts, "i") || form.op >= 32 && form.op <= 35 {
			continue
		}
		i := impl.Instr{Op: form.op}
		i.Imm = -2048 + 4
		text := strings.Replace(impl.InstrText(i), "-2044", "@here", 1)
		checkWords(t, "halt\nhere:\n"+text, 0x1800, 0x31000000, impl.Encode(i))
	}
}

func TestAssembleNamesOnlyInPlaceOfImm(t *testing.T) {
	for _, line := range []string{"add @a, r0, r0", "add r0, r0, @a", "eq @a, r0, 0", "eq r16, r0, @a", "eq r0, @a", "vload v0, @a", "halt @a", "hyper @a, 0", "hyper @ a", "hyper a", "hyper @@a", "high @a", "in @a, 0", "hyper @a@a", "hyper @a 1"} {
		checkRefused(t, "a:\n"+line, 0, impl.ErrSyntax, 2)
	}
	checkWords(t, "a:\nhyper @a", 8, 0x30000008)
	checkWords(t, "vadd v3, v2, v1", 8, 0x36321000)
}

func TestAssembleTheFarthestNames(t *testing.T) {
	ahead := impl.Assemble("lo r0, r0, @end\n.space 999\nend:", 0)
	checkNumber(t, "code ahead", ahead.Code, impl.OK)
	checkNumber(t, "1000 words ahead", ahead.Words[0], 0x23000000+1000)
	behind := impl.Assemble("top:\n.space 999\nlo r0, r0, @top", 0)
	checkNumber(t, "code behind", behind.Code, impl.OK)
	checkNumber(t, "999 words behind", behind.Words[999], 0x23000000+4096-999)
}

func TestAssembleLabelsThatAreThere(t *testing.T) {
	checkRefused(t, "x:\nhalt\n x: ", 0, impl.ErrConflict, 3)
	checkRefused(t, "x:\ny:\ny:\nx:", 0, impl.ErrConflict, 3)
	checkRefused(t, "x:\nx:\nbad", 0, impl.ErrConflict, 2)
	checkRefused(t, "x:\nbad\nx:", 0, impl.ErrSyntax, 2)
	checkRefused(t, "eq r0, r0, @no\nx:\nx:", 0, impl.ErrConflict, 3)
	checkWords(t, "x:\nx_:\nx1:\n", 0)
}

func TestAssembleCountsWords(t *testing.T) {
	full := impl.Assemble(".space 999\nhalt\nend:\n# behind\n.space 0\n.text \"\"", 0)
	checkNumber(t, "code of MaxList words", full.Code, impl.OK)
	checkNumber(t, "MaxList words", int64(len(full.Words)), impl.MaxList)
	for _, line := range []string{"halt", ".word 0", ".space 1", ".text \"a\"", "eq r0, r0, @no"} {
		checkRefused(t, ".space 1000\n\n"+line+"\nbad", 0, impl.ErrCount, 3)
	}
	checkRefused(t, ".space 999\n.text \"abcde\"", 0, impl.ErrCount, 2)
	checkRefused(t, ".space 1\n.space 1000\n", 0, impl.ErrCount, 2)
	checkRefused(t, ".space 1000\nbad\nhalt", 0, impl.ErrSyntax, 2)
	checkRefused(t, "x:\n.space 1000\nx:\nhalt", 0, impl.ErrConflict, 3)
	checkRefused(t, "hyper @no\n.space 1000", 0, impl.ErrCount, 2)
	checkRefused(t, ".text \""+strings.Repeat("a", 4001)+"\"", 0, impl.ErrCount, 1)
}

func TestAssembleNamesThatAreNoLabels(t *testing.T) {
	checkRefused(t, "hyper @a\nhyper @b\nb:", 0, impl.ErrNone, 1)
	checkRefused(t, "hyper @b\n\n# x\nhyper @a\nb:\nhyper @c", 0, impl.ErrNone, 4)
	checkRefused(t, "b:\nhyper @b\nhyper @bb", 0, impl.ErrNone, 3)
	checkRefused(t, "call r1, @halt\nhalt", 0, impl.ErrNone, 1)
	checkRefused(t, "hyper @no\nbad", 0, impl.ErrSyntax, 2)
}

func TestIsaAnswersAreNewMemory(t *testing.T) {
	first := impl.Assemble("halt\nhyper 1", 0)
	second := impl.Assemble("halt\nhyper 1", 0)
	first.Words[0] = 7
	checkNumber(t, "the second answer's word", second.Words[0], 0x31000000)
}

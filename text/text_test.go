package text_test

import (
	"math/rand"
	"regexp"
	"slices"
	"strconv"
	"strings"
	"testing"

	"windlass/api"
	"windlass/code"
	"windlass/text"
)

const greatest uint64 = 1<<64 - 1

// head begins a function that has nothing but instructions.
const head = "func 0 - 0 -\n"

func program(list ...api.Func) api.Program { return api.Program{Funcs: list} }

// body is a function of instructions alone.
func body(list ...api.Instr) api.Func { return api.Func{Keep: -1, Code: list} }

func number(n int) string { return strconv.Itoa(n) }

// coded is a program and its text.
type coded struct {
	name string
	p    api.Program
	text string
}

// codeds are programs that layer 3 encodes, and their texts, written by hand.
func codeds() []coded {
	ret := api.Instr{Op: api.Ret}
	return []coded{
		{"three instructions", program(body(api.Instr{Op: api.Const, Imm: 7}, api.Instr{Op: api.Out}, ret)),
			"func 0 - 0 -\nconst 7\nout\nret\n"},
		{"a parameter, two locals, one kept", program(api.Func{Params: 1, Locals: []api.Kind{api.Num, api.Ptr}, Result: true, Keep: 0, Code: []api.Instr{{Op: api.Get}}}),
			"func 1 np 1 0\nget 0\n"},
		{"no instruction", program(body()),
			"func 0 - 0 -\n"},
		{"no parameter, but locals", program(api.Func{Locals: []api.Kind{api.Ptr}, Keep: 254}),
			"func 0 p 0 254\n"},
		{"letters in order", program(api.Func{Params: 3, Locals: []api.Kind{api.Ptr, api.Ptr, api.Num, api.Ptr, api.Num, api.Num, api.Num}, Result: true, Keep: -1}),
			"func 3 ppnpnnn 1 -\n"},
		{"numbers", program(body(api.Instr{Op: api.Const}, api.Instr{Op: api.Const, Imm: greatest}, api.Instr{Op: api.Jump, Arg: 65535}, api.Instr{Op: api.Set, Arg: 255}, api.Instr{Op: api.Zero, Arg: 10})),
			"func 0 - 0 -\nconst 0\nconst 18446744073709551615\njump 65535\nset 255\nzero 10\n"},
		{"several functions", program(body(api.Instr{Op: api.Defer, Arg: 1}, ret), body(), api.Func{Params: 1, Locals: []api.Kind{api.Num}, Keep: 0, Code: []api.Instr{ret, ret}}),
			"func 0 - 0 -\ndefer 1\nret\nfunc 0 - 0 -\nfunc 1 n 0 0\nret\nret\n"},
	}
}

// beyond are programs that have bytes, but exceed a bound.
func beyond() []coded {
	ret := api.Instr{Op: api.Ret}
	return []coded{
		{"17 functions", program(slices.Repeat([]api.Func{body(ret)}, 17)...), strings.Repeat(head+"ret\n", 17)},
		{"255 functions", program(slices.Repeat([]api.Func{body()}, 255)...), strings.Repeat(head, 255)},
		{"5 parameters", program(api.Func{Params: 5, Locals: make([]api.Kind, 5), Keep: -1}), "func 5 nnnnn 0 -\n"},
		{"255 parameters", program(api.Func{Params: 255, Locals: slices.Repeat([]api.Kind{api.Ptr}, 255), Keep: 254}), "func 255 " + strings.Repeat("p", 255) + " 0 254\n"},
		{"17 locals", program(api.Func{Locals: make([]api.Kind, 17), Keep: 16}), "func 0 nnnnnnnnnnnnnnnnn 0 16\n"},
		{"257 instructions", program(body(slices.Repeat([]api.Instr{ret}, 257)...)), head + strings.Repeat("ret\n", 257)},
		{"65535 instructions", program(body(slices.Repeat([]api.Instr{{Op: api.Get, Arg: 9}}, 65535)...)), head + strings.Repeat("get 9\n", 65535)},
	}
}

// operation is one of the 32, by its number in the document, its name, and the
// greatest operand; 0: it has none.
type operation struct {
	op       api.Op
	name     string
	greatest uint64
}

func operations() []operation {
	return []operation{
		{1, "const", greatest}, {2, "get", 255}, {3, "set", 255}, {4, "addr", 255},
		{5, "load", 0}, {6, "store", 0}, {7, "add", 0}, {8, "sub", 0}, {9, "mul", 0},
		{10, "div", 0}, {11, "rem", 0}, {12, "and", 0}, {13, "or", 0}, {14, "xor", 0},
		{15, "shl", 0}, {16, "shr", 0}, {17, "sar", 0}, {18, "eq", 0}, {19, "lt", 0},
		{20, "below", 0}, {21, "jump", 65535}, {22, "zero", 65535}, {23, "call", 255},
		{24, "ret", 0}, {25, "defer", 255}, {26, "panic", 0}, {27, "recover", 0},
		{28, "in", 0}, {29, "out", 0}, {30, "exit", 0}, {31, "drop", 0}, {32, "dup", 0},
	}
}

func (o operation) with(v uint64) api.Instr {
	if o.op == 1 {
		return api.Instr{Op: o.op, Imm: v}
	}
	return api.Instr{Op: o.op, Arg: int(v)}
}

// lines are lines of an operation with the instructions that they are, at the
// edges of its operand.
func (o operation) lines() map[string]api.Instr {
	if o.greatest == 0 {
		return map[string]api.Instr{o.name: {Op: o.op}}
	}
	list := map[string]api.Instr{}
	for _, v := range []uint64{0, 1, 9, 10, 99, 100, 200, 254, 255, 256, 999, 1000, 9999, 10000, 65534, 65535, 1 << 32, 1 << 63, greatest - 1, greatest} {
		if v <= o.greatest {
			list[o.name+" "+strconv.FormatUint(v, 10)] = o.with(v)
		}
	}
	return list
}

func checkPrint(t *testing.T, name string, p api.Program, want string) {
	t.Helper()
	if s, e := text.Print(p); s != want || e != api.OK {
		t.Errorf("%s: Print returns %.200q, %d; want %.200q, OK", name, s, int(e), want)
	}
}

func checkNoPrint(t *testing.T, name string, p api.Program) {
	t.Helper()
	if s, e := text.Print(p); s != "" || e != api.ErrForm {
		t.Errorf("%s: Print returns %.200q, %d; want none, ErrForm", name, s, int(e))
	}
}

func checkParse(t *testing.T, name, s string, want api.Program) {
	t.Helper()
	p, n, e := text.Parse(s)
	if e != api.OK || n != 0 || !code.Same(p, want) {
		t.Errorf("%s: Parse(%.200q) returns %.200v, %d, %d; want %.200v, 0, OK", name, s, p, n, int(e), want)
	}
}

func checkNoParse(t *testing.T, name, s string, line int) {
	t.Helper()
	p, n, e := text.Parse(s)
	if e != api.ErrWord || n != line || p.Funcs != nil {
		t.Errorf("%s: Parse(%.200q) returns %d functions, %d, %d; want none, %d, ErrWord", name, s, len(p.Funcs), n, int(e), line)
	}
}

// checkLine holds an instruction's line, in several surroundings.
func checkLine(t *testing.T, line string, want api.Instr) {
	t.Helper()
	ret := api.Instr{Op: api.Ret}
	checkParse(t, "a line alone", head+line+"\n", program(body(want)))
	checkParse(t, "a line among others", head+"ret\n"+line+"\nret", program(body(ret, want, ret)))
	checkParse(t, "a line of the second function", head+"ret\n"+head+line, program(body(ret), body(want)))
}

// checkNoLines has lines that are none, in several surroundings.
func checkNoLines(t *testing.T, lines ...string) {
	t.Helper()
	for _, line := range lines {
		checkNoParse(t, "a line alone", line, 1)
		checkNoParse(t, "a line alone, and a newline", line+"\n", 1)
		checkNoParse(t, "a line behind a func", head+line, 2)
		checkNoParse(t, "a line among others", head+"ret\n"+line+"\nret\n", 3)
		checkNoParse(t, "a line ahead of a func", head+"\n# x\n"+line+"\n"+head, 4)
	}
}

func TestP4_1Print(t *testing.T) {
	for _, c := range codeds() {
		checkPrint(t, c.name, c.p, c.text)
	}
}

func TestP4_1PrintBeyondBounds(t *testing.T) {
	for _, c := range beyond() {
		checkPrint(t, c.name, c.p, c.text)
	}
}

func TestP4_1PrintEachOperation(t *testing.T) {
	list := operations()
	if len(list) != 32 {
		t.Fatalf("%d operations", len(list))
	}
	var all []api.Instr
	want := head
	for i, o := range list {
		if int(o.op) != i+1 {
			t.Fatalf("operation %d is %s", i+1, o.name)
		}
		for line, instr := range o.lines() {
			checkPrint(t, "an operation", program(body(instr)), head+line+"\n")
			all = append(all, instr)
			want += line + "\n"
		}
	}
	checkPrint(t, "all operations", program(body(all...)), want)
}

func TestP4_1PrintEachArg(t *testing.T) {
	for _, o := range operations() {
		for v := uint64(0); v <= 65535 && v <= o.greatest && o.greatest > 0; v += 1 + v/257 {
			checkPrint(t, "an operand", program(body(o.with(v))), head+o.name+" "+strconv.FormatUint(v, 10)+"\n")
		}
	}
}

func TestP4_1PrintFuncLines(t *testing.T) {
	for n := range 256 {
		f := api.Func{Params: n, Locals: make([]api.Kind, n), Keep: -1}
		locals := strings.Repeat("n", n)
		if n == 0 {
			locals = "-"
		}
		checkPrint(t, "as many parameters as locals", program(f), "func "+number(n)+" "+locals+" 0 -\n")
		f.Result = true
		checkPrint(t, "a result", program(f), "func "+number(n)+" "+locals+" 1 -\n")
		f.Params = 0
		checkPrint(t, "no parameters", program(f), "func 0 "+locals+" 1 -\n")
		if n < 255 {
			f.Keep = n
			checkPrint(t, "a Keep", program(f), "func 0 "+locals+" 1 "+number(n)+"\n")
			checkPrint(t, "a Keep without locals", program(api.Func{Keep: n}), "func 0 - 0 "+number(n)+"\n")
		}
	}
	checkPrint(t, "255 parameters", program(api.Func{Params: 255, Locals: slices.Repeat([]api.Kind{api.Ptr}, 255)}), "func 255 "+strings.Repeat("p", 255)+" 0 0\n")
}

// TestP4_1PrintLetters has each row of four kinds.
func TestP4_1PrintLetters(t *testing.T) {
	for bits := range 16 {
		var locals []api.Kind
		word := ""
		for i := range 4 {
			locals = append(locals, api.Kind(bits>>i&1))
			word += string("np"[bits>>i&1])
		}
		checkPrint(t, "letters", program(api.Func{Params: 2, Locals: locals, Keep: 3}), "func 2 "+word+" 0 3\n")
	}
}

// notFuncs are functions that have no bytes, each for one reason.
func notFuncs() map[string]api.Func {
	list := map[string]api.Func{
		"Params below 0":              {Params: -1, Keep: -1},
		"Params far below 0":          {Params: -1 << 63, Keep: -1},
		"Params 1, no local":          {Params: 1, Keep: -1},
		"more Params than locals":     {Params: 3, Locals: make([]api.Kind, 2), Keep: -1},
		"256 locals":                  {Locals: make([]api.Kind, 256), Keep: -1},
		"a kind that is neither":      {Locals: []api.Kind{api.Num, 2}, Keep: -1},
		"a kind far from both":        {Locals: []api.Kind{255}, Keep: -1},
		"Keep below -1":               {Keep: -2},
		"Keep far below -1":           {Keep: -1 << 63},
		"Keep 255":                    {Keep: 255},
		"Keep far above":              {Keep: 1<<63 - 1},
		"65536 instructions":          body(slices.Repeat([]api.Instr{{Op: api.Ret}}, 65536)...),
		"operation 0":                 body(api.Instr{}),
		"operation 33":                body(api.Instr{Op: 33}),
		"operation 255":               body(api.Instr{Op: 255}),
		"Arg of const":                body(api.Instr{Op: api.Const, Arg: 1}),
		"one instruction that is bad": body(api.Instr{Op: api.Ret}, api.Instr{Op: api.Ret, Arg: 1}, api.Instr{Op: api.Ret}),
	}
	for _, o := range operations() {
		if o.op != api.Const {
			list["Imm of "+o.name] = body(api.Instr{Op: o.op, Imm: 1})
			list["great Imm of "+o.name] = body(api.Instr{Op: o.op, Imm: 1 << 63})
			list["Arg too great for "+o.name] = body(api.Instr{Op: o.op, Arg: int(o.greatest) + 1})
		}
		list["Arg below 0 of "+o.name] = body(api.Instr{Op: o.op, Arg: -1})
		list["great Arg of "+o.name] = body(api.Instr{Op: o.op, Arg: 1 << 32})
	}
	return list
}

func TestP4_1PrintWhatHasNoBytes(t *testing.T) {
	checkNoPrint(t, "the zero Program", api.Program{})
	checkNoPrint(t, "no function", program([]api.Func{}...))
	checkNoPrint(t, "256 functions", program(slices.Repeat([]api.Func{body()}, 256)...))
	for name, f := range notFuncs() {
		checkNoPrint(t, name, program(f))
		checkNoPrint(t, name+", first", program(f, body()))
		checkNoPrint(t, name+", last", program(body(), body(), f))
	}
}

// TestP4_1PrintWhatEncodeTakes holds Print against Encode.
func TestP4_1PrintWhatEncodeTakes(t *testing.T) {
	row := rand.New(rand.NewSource(4))
	for range 300 {
		p := someProgram(row)
		spoilOne(row, p)
		_, want := code.Encode(p)
		s, e := text.Print(p)
		if e != want || (e != api.OK) != (s == "") {
			t.Fatalf("Print(%v) returns %q, %d; Encode %d", p, s, int(e), int(want))
		}
	}
}

// spoilOne changes one number of a program, which may leave it without bytes.
func spoilOne(row *rand.Rand, p api.Program) {
	f := &p.Funcs[row.Intn(len(p.Funcs))]
	numbers := []int{-2, -1, 0, 1, 2, 16, 254, 255, 256, 65535, 65536}
	n := numbers[row.Intn(len(numbers))]
	switch part := row.Intn(6); {
	case part == 0:
		f.Params = n
	case part == 1:
		f.Keep = n
	case part == 2 && len(f.Locals) > 0:
		f.Locals[row.Intn(len(f.Locals))] = api.Kind(n)
	case part == 3 && len(f.Code) > 0:
		f.Code[row.Intn(len(f.Code))].Op = api.Op(n)
	case part == 4 && len(f.Code) > 0:
		f.Code[row.Intn(len(f.Code))].Arg = n
	case part == 5 && len(f.Code) > 0:
		f.Code[row.Intn(len(f.Code))].Imm = uint64(n)
	}
}

// TestP4_1PrintLayout has one space between words, a newline behind each line,
// and nothing else.
func TestP4_1PrintLayout(t *testing.T) {
	layout := regexp.MustCompile(`\A([a-z0-9-]+( [a-z0-9-]+)*\n)+\z`)
	row := rand.New(rand.NewSource(5))
	for range 100 {
		p := someProgram(row)
		s, e := text.Print(p)
		lines := len(p.Funcs)
		for _, f := range p.Funcs {
			lines += len(f.Code)
		}
		if e != api.OK || !layout.MatchString(s) || strings.Count(s, "\n") != lines {
			t.Fatalf("Print returns %q, %d, for %d lines", s, int(e), lines)
		}
	}
}

func TestP4_1PrintLeavesTheProgramApart(t *testing.T) {
	for _, c := range codeds() {
		store := program(append(slices.Clone(c.p.Funcs), api.Func{Params: 77})...)
		for i := range store.Funcs {
			f := &store.Funcs[i]
			f.Locals = append(slices.Clone(f.Locals), 77)
			f.Code = append(slices.Clone(f.Code), api.Instr{Op: 77})
		}
		before := code.Copy(store)
		p := program(slices.Clone(store.Funcs)[:len(c.p.Funcs)]...)
		for i := range p.Funcs {
			f := &p.Funcs[i]
			f.Locals = f.Locals[:len(f.Locals)-1]
			f.Code = f.Code[:len(f.Code)-1]
		}
		checkPrint(t, c.name, p, c.text)
		checkPrint(t, c.name+", again", p, c.text)
		if !code.Same(p, c.p) || !code.Same(store, before) {
			t.Errorf("%s: Print changed the program, or what lies behind it", c.name)
		}
	}
}

func TestP4_2Parse(t *testing.T) {
	for _, c := range slices.Concat(codeds(), beyond()) {
		checkParse(t, c.name, c.text, c.p)
		checkParse(t, c.name+", without the last newline", strings.TrimSuffix(c.text, "\n"), c.p)
		checkParse(t, c.name+", with a newline more", c.text+"\n", c.p)
	}
}

func TestP4_2EachOperation(t *testing.T) {
	for _, o := range operations() {
		for line, instr := range o.lines() {
			checkLine(t, line, instr)
		}
	}
}

func TestP4_2EachNumber(t *testing.T) {
	for _, o := range operations() {
		if o.greatest == 0 || o.greatest > 65535 {
			continue
		}
		for v := range uint64(65540) {
			s := head + o.name + " " + strconv.FormatUint(v, 10)
			if v <= o.greatest {
				checkParse(t, "a number that fits", s, program(body(o.with(v))))
			} else {
				checkNoParse(t, "a number that does not fit", s, 2)
			}
		}
	}
	for n := range 300 {
		params, keep := "func "+number(n)+" - 0 -", "func 0 - 0 "+number(n)
		result := "func 0 - " + number(n) + " -"
		switch {
		case n <= 1:
			checkParse(t, "a RESULT", result, program(api.Func{Result: n == 1, Keep: -1}))
		default:
			checkNoParse(t, "a RESULT", result, 1)
		}
		if n <= 255 {
			checkParse(t, "a PARAMS", params, program(api.Func{Params: n, Keep: -1}))
		} else {
			checkNoParse(t, "a PARAMS", params, 1)
		}
		if n <= 254 {
			checkParse(t, "a KEEP", keep, program(api.Func{Keep: n}))
		} else {
			checkNoParse(t, "a KEEP", keep, 1)
		}
	}
}

// places are lines in which a number stands for @, and the greatest one there.
func places() map[string]string {
	list := map[string]string{
		"func @ nnn 0 -":      "255",
		"func 0 nnn @ -":      "1",
		"func 0 nnn 0 @":      "254",
		head + "const @":      "18446744073709551615",
		head + "ret\n jump @": "65535",
		head + "zero @":       "65535",
	}
	for _, name := range []string{"get", "set", "addr", "call", "defer"} {
		list[head+name+" @"] = "255"
	}
	return list
}

// tooGreat are numbers above one that is written as digits.
func tooGreat(digits string) []string {
	end := len(digits)
	next := []byte(digits)
	for next[end-1] == '9' {
		end--
		next[end] = '0'
	}
	next[end-1]++
	return []string{string(next), digits + "0", digits + digits, "1" + strings.Repeat("0", 20), "18446744073709551616",
		"18446744073709551617", "36893488147419103232", "99999999999999999999", "1" + strings.Repeat("0", 1000), strings.Repeat("9", 100000)}
}

func TestP4_2NumbersThatAreNone(t *testing.T) {
	none := []string{"", "00", "01", "000", "-0", "+0", "+1", "-1", "--", "1-", "0-", "0x0", "0x1", "0b1", "0o1", "1_0", "1.", "1.0", ".1", "1e0",
		"a", "n", "p", "1a", "a1", "0n", "1,", "'1'", "0\t", "\t0", "1\r", "\r1", "0\v", "0\f", "0\x00", "\x000", "0\x80", "\xff1", "1\u00a0", "1\u2003", "\u0661", "\uff11", "²",
		strings.Repeat("0", 100), strings.Repeat("0", 100) + "1", "1 0", "0 1", "0 0", "#", "#1", "1#", "1 #", "@"}
	for place, most := range places() {
		line := 1 + strings.Count(place, "\n")
		for _, word := range slices.Concat(none, tooGreat(most), []string{"0" + most, "+" + most, "-" + most, most + ".", most + "a"}) {
			checkNoParse(t, "a number that is none", strings.Replace(place, "@", word, 1), line)
		}
		if _, _, e := text.Parse(strings.Replace(place, "@", most, 1)); e != api.OK {
			t.Errorf("%q with %s: %d", place, most, int(e))
		}
	}
	for _, place := range []string{"func @ nnn 0 -", "func 0 nnn @ -", head + "const @", head + "get @", head + "jump @"} {
		checkNoParse(t, "no number", strings.Replace(place, "@", "-", 1), 1+strings.Count(place, "\n"))
	}
}

func TestP4_2Locals(t *testing.T) {
	for bits := range 16 {
		word := ""
		var want []api.Kind
		for i := range 4 {
			word += string("np"[bits>>i&1])
			want = append(want, api.Kind(bits>>i&1))
			checkParse(t, "letters", "func 0 "+word+" 0 -", program(api.Func{Locals: want, Keep: -1}))
		}
	}
	for x := range 256 {
		if x == 'n' || x == 'p' || x == '-' || x == ' ' || x == '\n' {
			continue
		}
		for _, word := range []string{string([]byte{byte(x)}), "n" + string([]byte{byte(x)}), string([]byte{byte(x)}) + "p", "n" + string([]byte{byte(x)}) + "p"} {
			checkNoLines(t, "func 0 "+word+" 0 -")
		}
	}
	checkNoLines(t, "func 0 -n 0 -", "func 0 n- 0 -", "func 0 n-p 0 -", "func 0 -- 0 -", "func 0 N 0 -", "func 0 P 0 -", "func 0 np, 0 -", "func 0 num 0 -", "func 0 ñ 0 -", "func 0 n\xccp 0 -")
}

func TestP4_2Keep(t *testing.T) {
	checkParse(t, "none", "func 0 - 0 -", program(api.Func{Keep: -1}))
	checkParse(t, "one beyond the locals", "func 0 n 1 9", program(api.Func{Locals: []api.Kind{api.Num}, Result: true, Keep: 9}))
	checkNoLines(t, "func 0 - 0 -1", "func 0 - 0 255", "func 0 - 0 --", "func 0 - 0 n", "func 0 - 0 -0")
}

func TestP4_2Spaces(t *testing.T) {
	want := program(api.Func{Params: 1, Locals: []api.Kind{api.Num, api.Ptr}, Result: true, Keep: 0, Code: []api.Instr{{Op: api.Get, Arg: 1}, {Op: api.Out}, {Op: api.Const, Imm: 12}}})
	checkParse(t, "ahead", " func 1 np 1 0\n   get 1\n out\n          const 12", want)
	checkParse(t, "behind", "func 1 np 1 0 \nget 1   \nout \nconst 12    \n", want)
	checkParse(t, "between", "func  1   np    1     0\nget  1\nout\nconst             12\n", want)
	checkParse(t, "everywhere", "  func  1  np  1  0  \n  get  1  \n  out  \n  const  12  \n  ", want)
	many := strings.Repeat(" ", 10000)
	checkParse(t, "many", many+"func"+many+"1"+many+"np"+many+"1"+many+"0"+many+"\n"+many+"get"+many+"1"+many+"\nout"+many+"\n"+many+"const 12\n"+many, want)
	checkNoLines(t, "fu nc 0 - 0 -", "con st 7", "const7", "func0 - 0 -", "func 0- 0 -", "func 0 -0 -", "func 0 - 0-", "func 0 n p 0 -", "re t")
}

func TestP4_2SkippedLines(t *testing.T) {
	want := program(body(api.Instr{Op: api.Const, Imm: 7}, api.Instr{Op: api.Ret}))
	for _, skip := range []string{"", " ", "     ", "#", "##", "# ", "#x", "# x", "  #", "   # func 0 - 0 -", "#func 0 - 0 -", "#ret", "# const 07", "#\t", "# \x00\x80\xff\r", "#" + strings.Repeat("x ", 1000), "# \u2028 \u0085"} {
		checkParse(t, "skipped lines", skip+"\n"+head+skip+"\nconst 7\n"+skip+"\n"+skip+"\nret\n"+skip, want)
		checkParse(t, "skipped lines at the end", head+"const 7\nret\n"+skip+"\n"+skip+"\n", want)
		checkParse(t, "nothing but skipped lines", skip+"\n"+skip+"\n"+skip, api.Program{})
		checkParse(t, "nothing but a skipped line", skip, api.Program{})
	}
}

// TestP4_2OtherWordsWithARemark has words with # that are not the first.
func TestP4_2OtherWordsWithARemark(t *testing.T) {
	checkNoLines(t, "const 7 #", "const 7 # seven", "const 7 #seven", "const 7#", "const #7", "const #", "const# 7", "c#onst 7", "ret #", "ret #x", "ret#", "r#et",
		"func # 0 - 0 -", "func 0 - 0 - #", "func 0 - 0 - # main", "func 0 - 0 #", "func 0 # 0 -", "func# 0 - 0 -", "func 0 n# 0 -", "x # y", "\t#", "\t# x", "\ufeff#", "\x00#", "-#")
}

func TestP4_2NoFunctions(t *testing.T) {
	for _, s := range []string{"", "\n", "\n\n\n", " ", " \n  \n", "# x\n", "# func 0 - 0 -", "\n#\n"} {
		checkParse(t, "a text without functions", s, api.Program{})
	}
}

func TestP4_2InstructionsAheadOfTheFirstFunc(t *testing.T) {
	for _, o := range operations() {
		for line := range o.lines() {
			checkNoParse(t, "an instruction alone", line, 1)
			checkNoParse(t, "an instruction ahead of a func", line+"\n"+head, 1)
			checkNoParse(t, "one behind skipped lines", "# func 0 - 0 -\n\n "+line+" \n"+head, 3)
		}
	}
}

func TestP4_2NumberOfWords(t *testing.T) {
	for _, o := range operations() {
		if o.greatest == 0 {
			checkNoLines(t, o.name+" 0", o.name+" 1", o.name+" -", o.name+" "+o.name, o.name+" x", o.name+" 0 0", o.name+" func")
			continue
		}
		checkNoLines(t, o.name, o.name+" 0 0", o.name+" 1 2", o.name+" 1 2 3", o.name+" 0 -", o.name+" 0 ret", o.name+" "+o.name, o.name+" "+o.name+" 0")
	}
	checkNoLines(t, "func", "func 0", "func 0 -", "func 0 - 0", "func 0 - 0 - -", "func 0 - 0 - 0", "func 0 - 0 - ret", "func 0 - 0 - - -", "func func 0 - 0 -", "func - 0 -", "0 - 0 -")
}

func TestP4_2NamesThatAreNone(t *testing.T) {
	operand := func(o operation) string {
		if o.greatest == 0 {
			return ""
		}
		return " 0"
	}
	real := map[string]bool{"func": true}
	for _, o := range operations() {
		real[o.name] = true
	}
	for _, o := range append(operations(), operation{name: "func", greatest: 1}) {
		n := len(o.name)
		others := []string{strings.ToUpper(o.name), strings.ToUpper(o.name[:1]) + o.name[1:], o.name[:n-1] + strings.ToUpper(o.name[n-1:]),
			o.name + "s", o.name + o.name, o.name + "0", o.name + "-", o.name + "\x00", "x" + o.name, o.name + o.name[n-1:], o.name[:1] + o.name, o.name + ".", o.name + ":", o.name + ",", o.name + ";"}
		for i := 1; i < n; i++ {
			others = append(others, o.name[:i], o.name[i:])
		}
		for _, name := range others {
			if real[name] {
				continue
			}
			checkNoLines(t, name+operand(o))
			if o.name == "func" {
				checkNoLines(t, name+" 0 - 0 -")
			}
		}
	}
	checkNoLines(t, "nop", "nop 0", "num", "mod", "not", "neg", "pop", "push 1", "return", "-", "0", "1", "7 const", "n", "p", "gt", "above", "exit0", "?", "end", "\"ret\"", "//", "// x", ";", "; x", "--")
}

// TestP4_2OtherBytes has bytes that are neither spaces nor newlines between
// words, ahead of them and behind them.
func TestP4_2OtherBytes(t *testing.T) {
	var others []string
	for x := range 256 {
		if x != ' ' && x != '\n' {
			others = append(others, string([]byte{byte(x)}))
		}
	}
	others = append(others, "\r\t", "\u00a0", "\u0085", "\u1680", "\u2003", "\u2028", "\u3000", "\ufeff", "\u200b", "\x20\x09")
	for _, x := range others {
		checkNoLines(t, "const"+x+"7", "const "+x+" 7", "func"+x+"0 - 0 -", "func 0"+x+"- 0 -", "func 0 - 0"+x+"-")
		if digit := x >= "0" && x <= "9"; !digit {
			checkNoLines(t, "get 7"+x, "func 0 - 0 1"+x)
		}
		checkNoLines(t, "ret"+x, "ret "+x, "const 7 "+x, "func 0 - 0 -"+x, "func 0 - 0 - "+x)
		if x[0] != '#' {
			checkNoLines(t, x+"ret", x+" ret", x+"const 7", x+"func 0 - 0 -", x, x+x, x+" #", x+"#")
		}
	}
	checkNoParse(t, "lines that end with a carriage return and a newline", "func 0 - 0 -\r\nret\r\n", 1)
	checkNoParse(t, "a carriage return as a newline", "func 0 - 0 -\rret", 1)
	checkNoParse(t, "other newlines", "func 0 - 0 -\u2028ret\n", 1)
}

func TestP4_2LineAtFault(t *testing.T) {
	for n := range 40 {
		checkNoParse(t, "behind empty lines", strings.Repeat("\n", n)+"x", n+1)
		checkNoParse(t, "behind remarks", strings.Repeat("# x\n", n)+"ret\n", n+1)
		checkNoParse(t, "behind spaces", head+strings.Repeat("   \n", n)+"ret 1\nx\n", n+2)
		checkNoParse(t, "behind instructions", head+strings.Repeat("ret\n", n)+"func 0 - 2 -\n", n+2)
		checkNoParse(t, "behind functions", strings.Repeat(head+"\n#\nret\n", n)+"const\n"+head, 4*n+1)
	}
	checkNoParse(t, "the last line, without a newline", head+"ret\nx", 3)
	checkNoParse(t, "the last line, with a newline", head+"ret\nx\n", 3)
	checkNoParse(t, "a line far behind", head+strings.Repeat("ret\n\n", 100000)+"get 256", 200002)
}

// TestP4_2OnlyTheFirstLineAtFault has two lines at fault.
func TestP4_2OnlyTheFirstLineAtFault(t *testing.T) {
	faults := []string{"x", "ret 1", "const", "const 07", "func", "func 0 - 2 -", "func 0 - 0 255", "get 256", "\tret"}
	for _, a := range faults {
		for _, b := range faults {
			checkNoParse(t, "two faults", head+"ret\n"+a+"\nret\n"+b+"\n", 3)
			checkNoParse(t, "two faults in a row", head+a+"\n"+b, 2)
			checkNoParse(t, "a fault behind an instruction without a function", "\nret\n"+a+"\n"+b, 2)
		}
	}
	checkNoParse(t, "a func at fault is no func", "func 0 - 0\nret\n", 1)
}

func TestP4_2WhatIsNotChecked(t *testing.T) {
	checkParse(t, "1 parameter, no locals", "func 1 - 0 -", program(api.Func{Params: 1, Keep: -1}))
	checkParse(t, "255 parameters, no locals", "func 255 - 1 0", program(api.Func{Params: 255, Result: true}))
	checkParse(t, "3 parameters, 2 locals", "func 3 pn 0 254", program(api.Func{Params: 3, Locals: []api.Kind{api.Ptr, api.Num}, Keep: 254}))
	checkParse(t, "17 functions", strings.Repeat(head, 17), program(slices.Repeat([]api.Func{body()}, 17)...))
	checkParse(t, "256 functions", strings.Repeat(head, 256), program(slices.Repeat([]api.Func{body()}, 256)...))
	checkParse(t, "1000 functions", strings.Repeat(head, 1000), program(slices.Repeat([]api.Func{body()}, 1000)...))
	for _, n := range []int{17, 255, 256, 257, 1000, 70000} {
		checkParse(t, "many locals", "func 0 "+strings.Repeat("p", n)+" 0 -", program(api.Func{Locals: slices.Repeat([]api.Kind{api.Ptr}, n), Keep: -1}))
	}
	for _, n := range []int{257, 65535, 65536, 70000} {
		checkParse(t, "many instructions", head+strings.Repeat("add\n", n), program(body(slices.Repeat([]api.Instr{{Op: api.Add}}, n)...)))
	}
	checkParse(t, "operands that name nothing", head+"get 255\ncall 255\njump 65535\n", program(body(api.Instr{Op: api.Get, Arg: 255}, api.Instr{Op: api.Call, Arg: 255}, api.Instr{Op: api.Jump, Arg: 65535})))
}

func TestP4_2EachInstructionBelongsToTheLastFunc(t *testing.T) {
	want := program(body(), body(api.Instr{Op: api.Add}, api.Instr{Op: api.Sub}), body(), api.Func{Keep: 3, Code: []api.Instr{{Op: api.Mul}}})
	checkParse(t, "functions", head+"\n"+head+"add\n\nsub\n"+head+"func 0 - 0 3\nmul\n", want)
}

// upTo is an expression for the numbers from 0 to one that is written as digits.
func upTo(digits string) string {
	list := []string{"0", digits}
	for n := 1; n < len(digits); n++ {
		list = append(list, "[1-9][0-9]{"+number(n-1)+"}")
	}
	for i := range digits {
		least := byte('0')
		if i == 0 {
			least = '1'
		}
		if digits[i] > least {
			list = append(list, digits[:i]+"["+string(least)+"-"+string(digits[i]-1)+"][0-9]{"+number(len(digits)-i-1)+"}")
		}
	}
	return "(" + strings.Join(list, "|") + ")"
}

// grammar is the chapter's, as an expression for each sort of line.
type grammar struct{ spaces, skipped, function, instruction *regexp.Regexp }

func newGrammar() grammar {
	line := func(words ...string) *regexp.Regexp {
		return regexp.MustCompile(`\A *(` + strings.Join(words, " +") + `) *\z`)
	}
	var names [4][]string
	for _, o := range operations() {
		switch o.greatest {
		case 0:
			names[0] = append(names[0], o.name)
		case 255:
			names[1] = append(names[1], o.name)
		case 65535:
			names[2] = append(names[2], o.name)
		default:
			names[3] = append(names[3], o.name)
		}
	}
	one := func(i int) string { return "(" + strings.Join(names[i], "|") + ")" }
	return grammar{
		spaces:      regexp.MustCompile(" +"),
		skipped:     regexp.MustCompile(`\A *(#[^\n]*)?\z`),
		function:    line("func", upTo("255"), "(-|[np]+)", upTo("1"), "(-|"+upTo("254")+")"),
		instruction: line(one(0) + "|" + one(1) + " +" + upTo("255") + "|" + one(2) + " +" + upTo("65535") + "|" + one(3) + " +" + upTo("18446744073709551615")),
	}
}

// read returns the lines of a text as they are printed, and the first one at
// fault, by its number.
func (g grammar) read(s string) (string, int) {
	var b strings.Builder
	began := false
	for i, line := range strings.Split(s, "\n") {
		if g.skipped.MatchString(line) {
			continue
		}
		began = began || g.function.MatchString(line)
		if !began || !g.function.MatchString(line) && !g.instruction.MatchString(line) {
			return "", i + 1
		}
		b.WriteString(g.spaces.ReplaceAllString(strings.Trim(line, " "), " ") + "\n")
	}
	return b.String(), 0
}

// checkRead holds Parse against the grammar, and what it returns against the
// lines as they are printed.
func (g grammar) checkRead(t *testing.T, s string) {
	t.Helper()
	want, line := g.read(s)
	if line > 0 {
		checkNoParse(t, "by the grammar", s, line)
		return
	}
	p, n, e := text.Parse(s)
	if e != api.OK || n != 0 {
		t.Errorf("Parse(%q) returns %d, %d; want OK", s, n, int(e))
		return
	}
	if _, f := code.Encode(p); f != api.OK {
		return // no lines are printed for it
	}
	checkPrint(t, "what was parsed", p, want)
}

func TestP4_2ExpressionsOfNumbers(t *testing.T) {
	for digits, most := range map[string]int{"1": 1, "254": 254, "255": 255, "65535": 65535} {
		all := regexp.MustCompile(`\A` + upTo(digits) + `\z`)
		for n := range 70000 {
			if all.MatchString(number(n)) != (n <= most) {
				t.Fatalf("the expression up to %s is wrong at %d", digits, n)
			}
		}
	}
}

// TestP4_2ChangedTexts changes a text at each of its bytes.
func TestP4_2ChangedTexts(t *testing.T) {
	g := newGrammar()
	texts := []string{" # a\nfunc 1 np 1 0\n get  1 \n\nconst 10\nret\nfunc 0 - 0 -\njump 9", "func 0 - 1 25\ncall 25\nzero 6553\n#\nbelow\n", "func 4 pnpn 0 254\nconst 1844674407370955161\nadd\n"}
	const letters = "0123456789 -\n#np\t\r\x00\x80\xffaefrtu_+"
	for _, s := range texts {
		g.checkRead(t, s)
		for i := range len(s) + 1 {
			for j := range len(letters) {
				g.checkRead(t, s[:i]+letters[j:j+1]+s[i:])
				if i < len(s) {
					g.checkRead(t, s[:i]+letters[j:j+1]+s[i+1:])
				}
			}
			if i < len(s) {
				g.checkRead(t, s[:i]+s[i+1:])
			}
			g.checkRead(t, s[:i])
			g.checkRead(t, s[i:])
		}
	}
}

// TestP4_2SomeTexts has texts of words that often are lines, as a row of numbers
// says that is the same in each run.
func TestP4_2SomeTexts(t *testing.T) {
	g := newGrammar()
	row := rand.New(rand.NewSource(6))
	words := []string{"0", "1", "2", "7", "-", "n", "pn", "255", "256", "65535", "65536", "18446744073709551615", "18446744073709551616", "00", "#", "func", "func 0 - 0 -", "func 1 n 1 0"}
	for _, o := range operations() {
		words = append(words, o.name, o.name+" 0")
	}
	gaps := []string{" ", " ", "  ", "\n", "\n", "\n", "\n", "\n \n", "\t"}
	for range 20000 {
		s := ""
		if row.Intn(3) > 0 {
			s = head
		}
		for range row.Intn(6) {
			s += words[row.Intn(len(words))] + gaps[row.Intn(len(gaps))]
		}
		g.checkRead(t, s)
	}
}

func TestP4_2ListsAreApart(t *testing.T) {
	for _, c := range codeds() {
		p, _, _ := text.Parse(c.text)
		for i := range p.Funcs {
			f := p.Funcs[i]
			locals, instrs := slices.Clone(f.Locals), slices.Clone(f.Code)
			fill(f.Locals[:cap(f.Locals)], 77)
			copy(f.Locals, locals)
			fill(f.Code[:cap(f.Code)], api.Instr{Op: 77})
			copy(f.Code, instrs)
			if !code.Same(p, c.p) {
				t.Errorf("%s: lists of function %d share memory", c.name, i)
			}
		}
		fill(p.Funcs[:cap(p.Funcs)], api.Func{Params: 77})
		checkParse(t, c.name+", again", c.text, c.p)
	}
}

func fill[T any](list []T, x T) {
	for i := range list {
		list[i] = x
	}
}

func checkBack(t *testing.T, name string, p api.Program) {
	t.Helper()
	s, e := text.Print(p)
	if e != api.OK {
		t.Errorf("%s: Print returns %d", name, int(e))
		return
	}
	checkParse(t, name, s, p)
}

func TestP4_3ParseOfPrint(t *testing.T) {
	for _, c := range slices.Concat(codeds(), beyond()) {
		checkBack(t, c.name, c.p)
	}
	var all []api.Instr
	for _, o := range operations() {
		for _, instr := range o.lines() {
			all = append(all, instr)
			checkBack(t, "an operation", program(body(instr)))
		}
	}
	checkBack(t, "all operations", program(body(all...)))
}

func TestP4_3ParseOfPrintAtEachNumber(t *testing.T) {
	for n := range 256 {
		f := api.Func{Params: n, Locals: make([]api.Kind, n), Result: n%2 == 1, Keep: n - 1}
		checkBack(t, "numbers of a function", program(f, body(), f))
		for _, o := range operations() {
			if o.greatest == 255 {
				checkBack(t, "an operand", program(body(o.with(uint64(n)))))
			}
		}
	}
	for i := range 64 {
		checkBack(t, "an Imm", program(body(api.Instr{Op: api.Const, Imm: 1 << i}, api.Instr{Op: api.Const, Imm: 1<<i - 1}, api.Instr{Op: api.Const, Imm: greatest >> i})))
	}
}

func TestP4_3ParseOfPrintOfSomePrograms(t *testing.T) {
	row := rand.New(rand.NewSource(7))
	for range 500 {
		checkBack(t, "some program", someProgram(row))
	}
}

// someProgram makes one that has bytes, sometimes beyond a bound.
func someProgram(row *rand.Rand) api.Program {
	var p api.Program
	for range 1 + row.Intn(20) {
		f := api.Func{Result: row.Intn(2) == 1, Keep: row.Intn(256) - 1}
		for range row.Intn(20) {
			f.Locals = append(f.Locals, api.Kind(row.Intn(2)))
		}
		f.Params = row.Intn(len(f.Locals) + 1)
		for range row.Intn(40) {
			f.Code = append(f.Code, someInstr(row))
		}
		p.Funcs = append(p.Funcs, f)
	}
	return p
}

func someInstr(row *rand.Rand) api.Instr {
	o := operations()[row.Intn(32)]
	if o.greatest == 0 {
		return api.Instr{Op: o.op}
	}
	return o.with(row.Uint64() >> row.Intn(64) & o.greatest)
}

// FuzzParse holds Parse against the grammar.
func FuzzParse(f *testing.F) {
	for _, c := range codeds() {
		f.Add(c.text)
	}
	g := newGrammar()
	f.Fuzz(func(t *testing.T, s string) { g.checkRead(t, s) })
}

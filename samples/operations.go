package samples

import (
	"math"
	"strings"
)

// Chapter has layer 6's own examples, and those of the document as a whole.
func Chapter() []Example {
	return []Example{
		{Code: "const 7; out; ret", Want: "out=7 exit=0", Numbers: Numbers{3, 1, 0, 0}},
		{Code: "const 1; const 0; div; out; ret", Want: ByZero, Numbers: Numbers{3, 1, 0, 1}},
		{Code: "defer 1; const 5; panic; " + Heading + "recover; drop; out; ret", Want: "out=5 exit=0", Numbers: Numbers{7, 2, 1, 1}},
		{Code: "defer 1; const 5; panic; " + Heading + "const 6; panic", Want: "panic=6", Numbers: Numbers{5, 2, 1, 2}},
		// Those of DOC.md that are not among them.
		{Code: "defer 1; const 5; panic; " + Heading + "call 2; ret; " + Heading + "recover; drop; drop; ret", Want: "panic=5", Numbers: Numbers{9, 3, 1, 1}},
		{Code: "call 1; out; ret; func 0 n 1 0; const 3; set 0; defer 2; const 9; panic; " + Heading + "recover; drop; drop; ret", Want: "out=3 exit=0", Numbers: Numbers{12, 3, 1, 1}},
		{Code: "const 1; const 0; div; out; ret", Want: ByZero},
	}
}

// opExample is an operation with two numbers beneath all that it is given: what
// is told behind it, the top first, is to be these and the two.
type opExample struct {
	locals, before, op, want string
}

func (x opExample) example() Example {
	want := strings.Fields(x.want)
	code := "func 0 " + x.locals + " 0 -; const 101; const 102; " + x.before + "; " + x.op
	code += strings.Repeat("; out", len(want)+2) + "; ret"
	s := ""
	for _, w := range append(want, "102", "101") {
		s += "out=" + w + " "
	}
	return Example{Code: code, Want: s + "exit=0"}
}

// Operations: what each of them does.
func Operations() []Example {
	var list []Example
	for _, x := range behind() {
		list = append(list, x.example())
	}
	return append(list, steps()...)
}

// behind is what lies on the stack behind an operation.
func behind() []opExample {
	return []opExample{
		{"-", "", "const 0", "0"},
		{"-", "", "const 18446744073709551615", "18446744073709551615"},
		{"nn", "const 8; set 0; const 9; set 1", "get 0", "8"},
		{"nn", "const 8; set 0; const 9; set 1", "get 1", "9"},
		{"np", "const 8; set 0; addr 0; set 1; get 1", "load", "8"},
		{"nn", "const 8; const 9; const 10", "set 1", "9 8"},
		{"nn", "const 8; set 1; get 0; get 1", "set 0; get 0", "8 0"},
		{"nn", "const 8; set 0; const 9; set 1; addr 1", "load", "9"},
		{"nn", "const 8; set 0; const 9; set 1; addr 0", "load", "8"},
		{"nn", "const 3; addr 1; const 9", "store; get 1; get 0", "0 9 3"},
		{"-", "const 7; const 2", "add", "9"},
		{"-", "const 7; const 2", "sub", "5"},
		{"-", "const 7; const 2", "mul", "14"},
		{"-", "const 7; const 2", "div", "3"},
		{"-", "const 7; const 2", "rem", "1"},
		{"-", "const 7; const 2", "and", "2"},
		{"-", "const 5; const 3", "or", "7"},
		{"-", "const 7; const 2", "xor", "5"},
		{"-", "const 7; const 2", "shl", "28"},
		{"-", "const 7; const 2", "shr", "1"},
		{"-", "const 18446744073709551608; const 2", "sar", "18446744073709551614"},
		{"-", "const 7; const 7", "eq", "1"},
		{"-", "const 7; const 2", "eq", "0"},
		{"-", "const 18446744073709551615; const 2", "lt", "1"},
		{"-", "const 2; const 18446744073709551615", "lt", "0"},
		{"-", "const 18446744073709551615; const 2", "below", "0"},
		{"-", "const 2; const 18446744073709551615", "below", "1"},
		{"-", "const 7", "jump a; const 5; add; a: const 6", "6 7"},
		{"-", "const 7; const 0", "zero a; const 5; add; a: const 6", "6 7"},
		{"-", "const 7; const 2", "zero a; const 5; add; a: const 6", "6 12"},
		{"-", "const 7; const 18446744073709551615", "zero a; const 5; add; a: const 6", "6 12"},
		{"-", "const 7", "recover", "0 0 7"},
		{"-", "const 7; const 8", "drop", "7"},
		{"-", "const 7; const 8", "dup", "8 8 7"},
		{"np", "const 8; set 0; addr 0", "dup; load; set 0; load", "8"},
		{"np", "const 8; set 0; addr 0; addr 0", "const 9; store; load", "9"},
		{"np", "const 8; addr 0", "drop", "8"},
		{"np", "get 0; addr 0; set 1", "get 1; const 4; store; get 1; load", "4 0"},
	}
}

// steps: what single operations do.
func steps() []Example {
	return []Example{
		{Code: "const 101; in; in; out; out; out; ret", Tape: []uint64{5, 6}, Want: "in=5 in=6 out=6 out=5 out=101 exit=0"},
		{Code: "const 101; const 102; out; const 103; out; out; ret", Want: "out=102 out=103 out=101 exit=0"},
		{Code: "const 101; const 102; exit", Want: "exit=102", Numbers: Numbers{3, 1, 0, 0}},
		{Code: "const 101; const 102; panic", Want: "panic=102", Numbers: Numbers{3, 1, 0, 1}},
		{Code: "const 18446744073709551615; exit", Want: "exit=18446744073709551615"},
		{Code: "const 0; panic", Want: "panic=0"},
		{Code: "const 18446744073709551615; panic", Want: ByZero},
		{Code: "ret", Want: "exit=0", Numbers: Numbers{1, 1, 0, 0}},
		{Code: "jump 0", Want: "fuel", Numbers: Numbers{Plenty, 1, 0, 0}},
		{Code: "const 0; zero 0; ret", Want: "fuel"},
		{Code: "jump a; ret; a: const 1; exit", Want: "exit=1", Numbers: Numbers{3, 1, 0, 0}},
		// A call takes its arguments, and leaves what lies beneath.
		{Code: "const 101; const 102; const 7; const 8; call 1; out; out; ret; func 2 nn 0 -; get 0; out; get 1; out; ret", Want: "out=7 out=8 out=102 out=101 exit=0", Numbers: Numbers{13, 2, 0, 0}},
		{Code: "const 101; const 102; const 7; const 8; call 1; out; out; out; ret; func 2 nn 1 -; get 0; get 1; sub; ret", Want: "out=18446744073709551615 out=102 out=101 exit=0"},
		{Code: "const 101; const 1; const 2; const 3; const 4; call 1; out; ret; func 4 nnnn 0 -; get 0; get 1; get 2; get 3; out; out; out; out; ret", Want: "out=4 out=3 out=2 out=1 out=101 exit=0"},
		{Code: "const 101; call 1; out; ret; " + Heading + "ret", Want: "out=101 exit=0", Numbers: Numbers{5, 2, 0, 0}},
		{Code: "const 101; call 1; out; out; ret; func 0 - 1 -; const 5; ret", Want: "out=5 out=101 exit=0"},
		{Code: "const 101; const 6; defer 1; out; ret; func 1 n 0 -; get 0; out; ret", Want: "out=101 out=6 exit=0", Numbers: Numbers{8, 2, 1, 0}},
		// The arguments are the callee's own.
		{Code: "func 0 n 0 -; const 7; set 0; get 0; call 1; get 0; out; ret; func 1 n 0 -; const 8; set 0; get 0; out; ret", Want: "out=8 out=7 exit=0"},
		{Code: "func 0 np 0 -; const 7; set 0; addr 0; call 1; get 1; load; out; ret; func 1 p 0 -; get 0; load; out; ret", Want: "out=7 " + ByNull},
		// Sixteen words on the stack.
		{Code: strings.Repeat("const 3; ", 16) + strings.Repeat("add; ", 15) + "out; ret", Want: "out=48 exit=0"},
		{Code: strings.Repeat("const 3; ", 14) + "call 1; " + strings.Repeat("add; ", 14) + "out; ret; func 0 - 1 -; " + strings.Repeat("const 5; ", 16) + strings.Repeat("add; ", 15) + "ret", Want: "out=122 exit=0"},
		// A function that calls itself.
		{Code: "const 4; call 1; out; ret; func 1 n 1 -; get 0; zero a; get 0; get 0; const 1; sub; call 1; add; ret; a: const 100; ret", Want: "out=110 exit=0", Numbers: Numbers{44, 6, 0, 0}},
	}
}

// Pointers: what pointers refer to, and what locals begin with.
func Pointers() []Example {
	return []Example{
		// Locals of the same frame.
		{Code: "func 0 nn 0 -; const 5; set 1; addr 1; load; out; addr 0; const 6; store; get 0; out; get 1; out; ret", Want: "out=5 out=6 out=5 exit=0"},
		{Code: "func 0 nnnp 0 -; addr 0; set 3; addr 2; const 7; store; addr 0; const 5; store; addr 1; const 6; store; get 0; out; get 1; out; get 2; out; get 3; load; out; ret", Want: "out=5 out=6 out=7 out=5 exit=0"},
		{Code: "func 0 npp 0 -; addr 0; dup; set 1; set 2; get 1; const 4; store; get 2; load; out; get 2; const 5; store; get 1; load; get 0; sub; out; ret", Want: "out=4 out=0 exit=0"},
		{Code: "func 0 nnp 0 -; const 1; set 0; const 2; set 1; addr 0; set 2; get 2; load; out; addr 1; set 2; get 2; load; out; ret", Want: "out=1 out=2 exit=0"},
		// Locals of the frame below, and of one further down, past frames with locals of their own.
		{Code: "func 0 n 0 -; const 4; set 0; addr 0; call 1; get 0; exit; func 1 p 0 -; get 0; get 0; load; const 10; add; store; ret", Want: "exit=14"},
		{Code: "func 0 nnn 0 -; const 1; set 0; const 2; set 1; const 3; set 2; addr 1; call 1; get 0; out; get 1; out; get 2; out; ret; func 1 pn 0 -; const 20; set 1; get 0; call 2; get 1; out; ret; func 1 pnn 0 -; const 30; set 1; const 40; set 2; get 0; call 3; get 1; out; get 2; out; ret; func 1 p 0 -; get 0; load; out; get 0; const 9; store; ret", Want: "out=2 out=30 out=40 out=20 out=1 out=9 out=3 exit=0"},
		{Code: "func 0 nn 0 -; addr 0; addr 1; call 1; get 0; out; get 1; out; ret; func 2 pp 0 -; get 1; get 0; call 2; ret; func 2 pp 0 -; get 0; const 3; store; get 1; const 4; store; ret", Want: "out=4 out=3 exit=0"},
		{Code: "func 0 n 0 -; addr 0; call 1; get 0; out; ret; func 1 pn 0 -; const 5; set 1; get 0; addr 1; call 2; get 1; out; ret; func 2 pp 0 -; get 0; get 1; load; store; get 1; const 6; store; ret", Want: "out=6 out=5 exit=0"},
		// A local of each frame of a function that calls itself.
		{Code: "func 0 n 0 -; const 3; addr 0; call 1; get 0; out; ret; func 2 npn 0 -; get 0; zero a; get 0; const 1; sub; addr 2; call 1; get 1; get 2; get 0; add; store; ret; a: get 1; const 100; store; ret", Want: "out=106 exit=0"},
		// Through deferred calls: the pointer is kept, what it refers to goes on.
		{Code: "func 0 n 0 -; const 1; set 0; addr 0; defer 1; const 2; set 0; ret; func 1 p 0 -; get 0; load; out; ret", Want: "out=2 exit=0"},
		{Code: "func 0 n 0 -; addr 0; defer 1; addr 0; defer 2; const 8; set 0; ret; func 1 p 0 -; get 0; load; out; ret; func 1 p 0 -; get 0; get 0; load; const 1; add; store; ret", Want: "out=9 exit=0"},
		{Code: "func 0 n 0 -; addr 0; call 1; get 0; out; ret; func 1 pn 0 -; get 0; defer 2; addr 1; defer 2; const 5; set 1; ret; func 1 p 0 -; get 0; load; out; get 0; const 7; store; ret", Want: "out=5 out=0 out=7 exit=0"},
		{Code: "func 0 n 0 -; addr 0; defer 1; const 6; panic; func 1 p 0 -; get 0; defer 2; ret; func 1 p 0 -; get 0; load; out; ret", Want: "out=0 panic=6"},
		{Code: "func 0 n 0 -; const 3; set 0; addr 0; call 1; get 0; out; ret; func 1 p 0 -; get 0; defer 2; const 1; panic; func 1 p 0 -; recover; drop; drop; get 0; const 44; store; ret", Want: "out=44 exit=0"},
		// The null pointer: a local's at first, and what it was stays behind.
		{Code: "func 0 p 0 -; get 0; load; out; ret", Want: ByNull, Numbers: Numbers{2, 1, 0, 1}},
		{Code: "func 0 p 0 -; get 0; const 5; store; const 1; out; ret", Want: ByNull, Numbers: Numbers{3, 1, 0, 1}},
		{Code: "func 0 pp 0 -; get 0; set 1; get 1; load; drop; ret", Want: ByNull},
		{Code: "func 0 p 0 -; get 0; call 1; ret; func 1 p 0 -; get 0; load; drop; ret", Want: ByNull, Numbers: Numbers{4, 2, 0, 1}},
		{Code: "func 0 np 0 -; get 1; defer 1; ret; func 1 p 0 -; get 0; const 1; store; ret", Want: ByNull},
		{Code: "func 0 np 0 -; addr 0; set 1; get 1; const 2; store; get 0; out; ret", Want: "out=2 exit=0"},
		{Code: "func 0 p 0 -; defer 1; get 0; load; drop; ret; " + Heading + "recover; out; out; ret", Want: "out=1 out=18446744073709551614 exit=0"},
		{Code: "func 0 p 0 -; defer 1; get 0; const 3; store; ret; " + Heading + "recover; out; out; ret", Want: "out=1 out=18446744073709551614 exit=0"},
		// Locals begin with zero, in each call again, whatever was there before.
		{Code: "func 0 nnn 0 -; get 0; out; get 1; out; get 2; out; ret", Want: "out=0 out=0 out=0 exit=0"},
		{Code: "call 1; call 1; ret; func 0 nn 0 -; get 0; out; get 1; out; const 5; set 0; const 6; set 1; ret", Want: "out=0 out=0 out=0 out=0 exit=0"},
		{Code: "const 9; call 1; call 2; ret; func 1 nnnn 0 -; get 1; out; const 5; set 0; const 6; set 1; const 7; set 2; const 8; set 3; ret; func 0 nnnn 0 -; get 0; out; get 1; out; get 2; out; get 3; out; ret", Want: "out=0 out=0 out=0 out=0 out=0 exit=0"},
		{Code: "call 1; call 1; ret; func 0 np 0 -; get 0; zero a; ret; a: const 1; call 2; ret; func 1 npn 0 -; get 2; out; addr 2; set 1; get 1; const 3; store; ret", Want: "out=0 out=0 exit=0"},
		{Code: "call 1; call 2; ret; func 0 np 0 -; addr 0; set 1; get 1; load; out; ret; func 0 np 0 -; get 1; load; out; ret", Want: "out=0 " + ByNull},
		{Code: "defer 1; defer 1; ret; func 0 n 0 -; get 0; out; const 6; set 0; ret", Want: "out=0 out=0 exit=0"},
		// No frame's locals touch another's.
		{Code: "func 0 nn 0 -; const 1; set 0; const 2; set 1; const 3; call 1; get 0; out; get 1; out; ret; func 1 nn 0 -; const 4; set 1; const 5; set 0; get 0; out; get 1; out; ret", Want: "out=5 out=4 out=1 out=2 exit=0"},
		{Code: "func 0 n 0 -; const 9; set 0; call 1; get 0; out; ret; " + Heading + "call 2; ret; func 0 nnnn 0 -; const 1; set 0; const 2; set 1; const 3; set 2; const 4; set 3; ret", Want: "out=9 exit=0"},
		{Code: "func 0 " + strings.Repeat("n", 16) + " 0 -; const 7; set 15; addr 15; call 1; get 15; out; get 0; out; ret; func 1 p" + strings.Repeat("n", 15) + " 0 -; const 2; set 15; get 0; get 0; load; get 15; mul; store; ret", Want: "out=14 out=0 exit=0"},
	}
}

// Tapes: numbers that are read and told.
func Tapes() []Example {
	return []Example{
		{Code: "in; out; ret", Want: "in=0 out=0 exit=0"},
		{Code: "in; out; ret", Tape: []uint64{}, Want: "in=0 out=0 exit=0"},
		{Code: "in; in; sub; out; ret", Tape: []uint64{9, 4}, Want: "in=9 in=4 out=5 exit=0"},
		{Code: "in; in; in; in; exit", Tape: []uint64{9, 4}, Want: "in=9 in=4 in=0 in=0 exit=0"},
		{Code: "in; exit", Tape: []uint64{math.MaxUint64, 1}, Want: "in=18446744073709551615 exit=18446744073709551615"},
		{Code: "const 3; out; in; out; const 5; out; in; out; in; out; ret", Tape: []uint64{1, 2}, Want: "out=3 in=1 out=1 out=5 in=2 out=2 in=0 out=0 exit=0"},
		{Code: "in; drop; call 1; in; out; ret; " + Heading + "in; out; ret", Tape: []uint64{1, 2, 3}, Want: "in=1 in=2 out=2 in=3 out=3 exit=0"},
		{Code: "defer 1; in; panic; " + Heading + "in; out; recover; out; out; in; out; ret", Tape: []uint64{7, 8}, Want: "in=7 in=8 out=8 out=1 out=7 in=0 out=0 exit=0"},
		{Code: "in; zero a; in; out; jump b; a: const 50; out; b: in; exit", Tape: []uint64{0, 5}, Want: "in=0 out=50 in=5 exit=5"},
		{Code: "a: in; dup; out; zero b; jump a; b: ret", Tape: []uint64{3, 2, 1}, Want: "in=3 out=3 in=2 out=2 in=1 out=1 in=0 out=0 exit=0"},
	}
}

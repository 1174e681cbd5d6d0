package samples

import (
	"strconv"
	"strings"
)

// Stacks: what lies on the operand stack where other words have been, and where
// paths part and meet.
func Stacks() []Example {
	return []Example{
		// Numbers and pointers at one depth, one after the other.
		{Code: "func 0 n 0 -; const 4; set 0; addr 0; load; out; const 9; out; addr 0; const 6; store; get 0; out; ret", Want: "out=4 out=9 out=6 exit=0"},
		{Code: "func 0 n 0 -; const 1; const 2; add; out; const 3; addr 0; const 5; store; addr 0; load; add; out; ret", Want: "out=3 out=8 exit=0"},
		{Code: "func 0 n 0 -; const 7; addr 0; drop; const 8; drop; out; ret", Want: "out=7 exit=0"},
		{Code: "func 0 n 0 -; const 1; addr 0; const 2; addr 0; drop; drop; const 5; store; out; get 0; out; ret", Want: "out=1 out=5 exit=0"},
		{Code: "func 0 np 0 -; get 1; const 3; drop; drop; const 3; addr 0; set 1; get 1; load; sub; out; ret", Want: "out=3 exit=0"},
		{Code: "defer 1; const 5; panic; func 0 n 0 -; addr 0; dup; load; drop; drop; recover; out; out; ret", Want: "out=1 out=5 exit=0"},
		// Doubled, and doubled again.
		{Code: "const 9; dup; const 4; sub; sub; out; ret", Want: "out=4 exit=0"},
		{Code: "const 9; dup; dup; const 1; add; out; const 2; add; out; out; ret", Want: "out=10 out=11 out=9 exit=0"},
		{Code: "func 0 n 0 -; addr 0; dup; dup; const 3; store; load; out; const 4; store; get 0; out; ret", Want: "out=3 out=4 exit=0"},
		{Code: "func 0 n 0 -; get 0; dup; const 3; set 0; get 0; out; out; out; ret", Want: "out=3 out=0 out=0 exit=0"},
		// Sixteen words.
		{Code: "func 0 n 0 -; " + strings.Repeat("addr 0; const 3; ", 8) + strings.Repeat("store; ", 8) + "get 0; out; ret", Want: "out=3 exit=0"},
		{Code: "func 0 n 0 -; addr 0; " + strings.Repeat("dup; ", 15) + strings.Repeat("drop; ", 14) + "const 4; store; load; out; ret", Want: "out=4 exit=0"},
		{Code: strings.Repeat("in; ", 14) + "recover; " + strings.Repeat("sub; ", 15) + "out; ret", Tape: []uint64{9, 4}, Want: "in=9 in=4 " + strings.Repeat("in=0 ", 12) + "out=5 exit=0"},
		// A call's result lies where the first of its arguments was.
		{Code: "func 0 n 0 -; const 6; addr 0; call 1; sub; out; get 0; out; ret; func 1 p 1 -; get 0; const 9; store; const 4; ret", Want: "out=2 out=9 exit=0"},
		{Code: "func 0 n 0 -; const 1; addr 0; const 2; addr 0; const 3; call 1; store; out; get 0; out; ret; func 3 npn 1 -; get 1; get 2; store; get 0; ret", Want: "out=1 out=2 exit=0"},
		// Not empty at a branch, a jump, and where two paths meet.
		{Code: "call 1; call 1; ret; func 0 n 0 -; const 5; addr 0; in; zero b; const 2; store; out; get 0; out; ret; b: load; add; out; ret", Tape: []uint64{1, 0}, Want: "in=1 out=5 out=2 in=0 out=5 exit=0"},
		{Code: "call 1; call 1; ret; func 0 n 0 -; const 5; addr 0; in; zero a; const 3; store; addr 0; jump b; a: const 4; store; addr 0; b: load; sub; out; ret", Tape: []uint64{1, 0}, Want: "in=1 out=2 in=0 out=1 exit=0"},
		{Code: "const 0; a: in; dup; zero b; add; jump a; b: drop; out; ret", Tape: []uint64{3, 4, 5}, Want: "in=3 in=4 in=5 in=0 out=12 exit=0"},
		{Code: "func 0 n 0 -; addr 0; a: in; zero b; dup; dup; load; const 1; add; store; jump a; b: load; out; ret", Tape: []uint64{7, 7}, Want: "in=7 in=7 in=0 out=2 exit=0"},
		{Code: "call 1; out; call 1; out; ret; func 0 - 1 -; const 8; in; zero a; const 1; jump b; a: const 2; b: shl; ret", Tape: []uint64{1, 0}, Want: "in=1 out=16 in=0 out=32 exit=0"},
		{Code: "call 1; call 1; ret; func 0 nnp 0 -; in; zero a; addr 0; jump b; a: addr 1; b: const 3; store; get 0; out; get 1; out; ret", Tape: []uint64{1, 0}, Want: "in=1 out=3 out=0 in=0 out=0 out=3 exit=0"},
	}
}

// Jumps of all lengths and ways.
func Jumps() []Example {
	return []Example{
		{Code: "jump a; a: const 1; jump b; b: out; ret", Want: "out=1 exit=0"},
		{Code: "in; zero a; a: const 6; out; ret", Tape: []uint64{0}, Want: "in=0 out=6 exit=0"},
		{Code: "in; zero a; a: const 6; out; ret", Tape: []uint64{1}, Want: "in=1 out=6 exit=0"},
		{Code: "const 8; in; zero a; a: out; ret", Want: "in=0 out=8 exit=0"},
		{Code: "const 8; in; zero a; a: out; ret", Tape: []uint64{2}, Want: "in=2 out=8 exit=0"},
		{Code: "top: in; zero top; const 2; out; ret", Tape: []uint64{0, 0, 5}, Want: "in=0 in=0 in=5 out=2 exit=0"},
		{Code: "func 0 n 0 -; top: get 0; out; get 0; const 1; add; set 0; get 0; const 3; eq; zero top; ret", Want: "out=0 out=1 out=2 exit=0"},
		{Code: "func 0 n 0 -; in; zero a; const 1; out; a: in; zero b; const 2; out; b: in; zero c; const 3; out; c: ret", Tape: []uint64{1, 0, 1}, Want: "in=1 out=1 in=0 in=1 out=3 exit=0"},
		{Code: "jump c; a: const 1; out; jump d; b: const 2; out; jump a; c: const 3; out; jump b; d: ret", Want: "out=3 out=2 out=1 exit=0"},
		{Code: "const 3; out; a: jump a", Want: "out=3 fuel"},
		{Code: "jump b; a: jump c; b: jump a; c: jump c", Want: "fuel"},
		{Code: "in; zero a; b: jump b; a: const 4; out; ret", Want: "in=0 out=4 exit=0"},
		// What is not reachable may be anything, and in any place.
		{Code: "jump a; const 1; out; a: const 2; out; ret; const 3; out; ret", Want: "out=2 exit=0"},
		{Code: "jump a; add; load; store; drop; a: ret", Want: "exit=0"},
		{Code: "ret; const 1", Want: "exit=0"},
		{Code: "ret; zero b; jump a; a: add; b: drop", Want: "exit=0"},
		{Code: "call 1; ret; b: jump b; func 0 - 0 -; jump a; jump b; a: const 7; out; ret; b: load", Want: "out=7 exit=0"},
	}
}

// Parameters that are written to, that pointers are made of, that are kept.
func Parameters() []Example {
	list := []Example{
		{Code: "const 4; call 1; out; ret; func 1 n 1 -; get 0; const 3; add; set 0; get 0; ret", Want: "out=7 exit=0"},
		{Code: "const 4; call 1; out; ret; func 1 n 1 -; addr 0; dup; load; const 2; mul; store; get 0; ret", Want: "out=8 exit=0"},
		{Code: "const 4; call 1; ret; func 1 np 0 -; addr 0; set 1; const 5; set 0; get 1; load; out; get 1; const 6; store; get 0; out; ret", Want: "out=5 out=6 exit=0"},
		{Code: "const 1; const 2; const 3; const 4; call 1; ret; func 4 nnnn 0 -; addr 2; load; out; addr 0; load; out; addr 3; load; out; addr 1; load; out; ret", Want: "out=3 out=1 out=4 out=2 exit=0"},
		{Code: "const 1; const 2; const 3; call 1; ret; func 3 nnn 0 -; addr 1; load; out; get 2; out; get 0; out; ret", Want: "out=2 out=3 out=1 exit=0"},
		{Code: "func 0 nn 0 -; addr 0; addr 1; call 1; get 0; out; get 1; out; ret; func 2 pp 0 -; get 1; set 0; get 0; const 6; store; ret", Want: "out=0 out=6 exit=0"},
		{Code: "func 0 n 0 -; const 7; set 0; const 1; addr 0; const 2; addr 0; call 1; get 0; out; ret; func 4 npnp 0 -; get 1; get 0; store; get 3; load; out; get 3; get 2; store; get 1; load; out; ret", Want: "out=1 out=2 out=2 exit=0"},
		{Code: "const 4; call 1; out; ret; func 1 n 1 -; get 0; ret; addr 0; load; ret", Want: "out=4 exit=0"},
		{Code: "const 8; call 1; out; ret; func 1 n 1 0; const 5; set 0; defer 2; const 9; panic" + Quiet, Want: "out=5 exit=0"},
		{Code: "const 8; call 1; out; ret; func 1 n 1 0; defer 2; addr 0; call 3; const 9; panic" + Quiet + "; func 1 p 0 -; get 0; const 44; store; ret", Want: "out=44 exit=0"},
		{Code: "const 8; call 1; out; ret; func 1 n 1 0; addr 0; defer 3; defer 2; const 9; panic" + Quiet + "; func 1 p 0 -; get 0; const 44; store; ret", Want: "out=8 exit=0"},
		{Code: "const 3; defer 1; const 9; panic; func 1 n 0 0; recover; out; out; get 0; out; ret", Want: "out=1 out=9 out=3 exit=0"},
		{Code: "const 3; defer 1; ret; func 1 nn 0 -; addr 0; load; out; addr 1; get 0; store; get 1; out; ret", Want: "out=3 out=3 exit=0"},
	}
	for keep := range 4 {
		k := strconv.Itoa(keep)
		one := strconv.Itoa(keep + 1)
		list = append(list,
			Example{Code: "const 1; const 2; const 3; const 4; call 1; out; ret; func 4 nnnnn 1 " + k + "; defer 2; const 9; panic" + Quiet, Want: "out=" + one + " exit=0"},
			Example{Code: "const 1; const 2; const 3; const 4; call 1; ret; func 4 nnnnn 0 " + k + "; get " + k + "; out; const 7; set " + k + "; get " + k + "; out; ret", Want: "out=" + one + " out=7 exit=0"},
		)
	}
	return list
}

// Endless are programs that never end.
func Endless() []string {
	list := []string{
		"jump 0",
		"a: const 1; out; jump a",
		"a: in; out; jump a",
		"call 0; ret",
		"const 3; out; call 0; ret",
		"defer 0; ret",
		"const 3; out; defer 0; ret",
		"a: defer 1; in; drop; jump a" + Nothing,
		"a: call 1; jump a; " + Heading + "defer 2; const 5; panic" + Catches,
		"defer 1; const 1; panic; " + Heading + "const 2; out; defer 1; const 2; panic",
		"defer 1; ret; " + Heading + "recover; out; out; defer 1; const 2; panic",
		"defer 1; const 1; panic; " + Heading + "recover; out; out; call 0; ret",
	}
	for i, s := range list {
		list[i] = Heading + s
	}
	return list
}

package sem_test

import "testing"

// Functions of one parameter, and of none, that many examples end with.
const (
	tell     = "; func 1 n 0 -; get 0; out; ret"              // its argument
	told2    = "; func 2 nn 0 -; get 0; out; get 1; out; ret" // its two
	catches  = "; " + head + "recover; out; out; ret"         // whether there was a panic, and its value
	quiet    = "; " + head + "recover; drop; drop; ret"
	nothing  = "; " + head + "ret"
	panics6  = "; " + head + "const 6; panic"
	tells100 = "; " + head + "const 100; out; ret"
)

// deferExamples: how frames end, without panics.
var deferExamples = []example{
	// The last first, each once.
	{code: "const 1; defer 1; const 2; defer 1; const 3; defer 1; const 9; out; ret" + tell, want: "out=9 out=3 out=2 out=1 exit=0", numbers: numbers{18, 2, 3, 0}},
	{code: "const 1; const 2; const 3; const 4; defer 1; defer 1; ret" + told2, want: "out=1 out=2 out=3 out=4 exit=0", numbers: numbers{17, 2, 2, 0}},
	{code: "defer 1; defer 2; defer 1; ret" + tells100 + "; " + head + "const 200; out; ret", want: "out=100 out=200 out=100 exit=0", numbers: numbers{13, 2, 3, 0}},
	{code: "defer 1; ret" + nothing, want: "exit=0", numbers: numbers{3, 2, 1, 0}},
	// With arguments as they were.
	{code: "func 0 n 0 -; const 5; set 0; get 0; defer 1; const 6; set 0; get 0; defer 1; const 7; set 0; get 0; out; ret" + tell, want: "out=7 out=6 out=5 exit=0"},
	{code: "func 0 n 0 -; const 5; set 0; get 0; defer 1; const 1; const 2; const 3; add; add; out; ret" + tell, want: "out=6 out=5 exit=0"},
	{code: "const 5; const 6; defer 1; const 7; const 8; defer 1; const 9; const 10; call 1; ret" + told2, want: "out=9 out=10 out=7 out=8 out=5 out=6 exit=0"},
	{code: "const 1; const 2; const 3; const 4; defer 1; const 5; out; ret; func 4 nnnn 0 -; get 0; out; get 1; out; get 2; out; get 3; out; ret", want: "out=5 out=1 out=2 out=3 out=4 exit=0"},
	{code: "in; defer 1; in; defer 1; in; out; ret" + tell, tape: []uint64{7, 8, 9}, want: "in=7 in=8 in=9 out=9 out=8 out=7 exit=0"},
	// A deferred call that changes its own arguments changes nobody else's.
	{code: "const 4; dup; defer 1; defer 1; ret; func 1 n 0 -; get 0; out; const 8; set 0; get 0; out; ret", want: "out=4 out=8 out=4 out=8 exit=0"},
	// Deferred calls that defer.
	{code: "const 3; defer 1; ret; func 1 n 0 -; get 0; zero a; get 0; const 1; sub; defer 1; a: get 0; out; ret", want: "out=3 out=2 out=1 out=0 exit=0", numbers: numbers{3 + 3*9 + 5, 5, 1, 0}},
	{code: "defer 1; const 1; out; ret; " + head + "defer 2; defer 3; const 2; out; ret; " + head + "const 3; out; ret; " + head + "defer 2; const 4; out; ret", want: "out=1 out=2 out=4 out=3 out=3 exit=0", numbers: numbers{4 + 5 + 4 + 2*3, 4, 2, 0}},
	{code: "defer 2; defer 1; ret; " + head + "defer 3; const 1; out; ret; " + head + "const 2; out; ret; " + head + "const 3; out; ret", want: "out=1 out=3 out=2 exit=0", numbers: numbers{13, 3, 2, 0}},
	{code: "defer 1; ret; " + head + "defer 1; ret", want: "fuel", numbers: numbers{plenty, 1 + plenty/2, 1, 0}},
	// The result of a deferred call is ignored, wherever it is.
	{code: "call 1; out; ret; func 0 n 1 0; defer 2; const 7; ret; func 0 - 1 -; const 9; ret", want: "out=7 exit=0", numbers: numbers{8, 3, 1, 0}},
	{code: "const 5; call 1; out; ret; " + head + "defer 2; ret; func 0 - 1 -; const 9; ret", want: "out=5 exit=0"},
	{code: "defer 1; ret; func 0 - 1 -; const 9; ret", want: "exit=0"},
	{code: "const 4; defer 1; out; ret; func 0 - 1 -; const 9; ret", want: "out=4 exit=0"},
	{code: "defer 1; const 3; panic; func 0 - 1 -; const 9; ret", want: "panic=3"},
	{code: "call 1; out; ret; func 0 n 1 0; const 2; set 0; defer 2; const 8; panic; func 0 - 1 -; recover; drop; drop; const 9; ret", want: "out=2 exit=0"},
	{code: "defer 1; ret; func 0 - 1 -; call 2; out; const 9; ret; func 0 - 1 -; const 8; ret", want: "out=8 exit=0"},
	// In called functions, at each one's own end.
	{code: "defer 1; call 2; const 2; out; ret; " + head + "const 1; out; ret; " + head + "defer 3; const 4; out; ret; " + head + "const 3; out; ret", want: "out=4 out=3 out=2 out=1 exit=0", numbers: numbers{15, 3, 2, 0}},
	{code: "call 1; call 1; const 5; out; ret; " + head + "const 6; defer 2; const 7; out; ret" + tell, want: "out=7 out=6 out=7 out=6 out=5 exit=0", numbers: numbers{21, 3, 1, 0}},
	{code: "const 3; call 1; out; ret; func 1 nn 1 1; get 0; defer 2; get 0; zero a; get 0; const 1; sub; call 1; get 0; add; ret; a: const 50; ret" + tell, want: "out=0 out=1 out=2 out=3 out=56 exit=0", numbers: numbers{4 + 3*11 + 6 + 4*3, 6, 4, 0}},
	// In loops.
	{code: "func 0 n 0 -; const 4; set 0; a: get 0; zero b; get 0; defer 1; get 0; const 1; sub; set 0; jump a; b: ret" + tell, want: "out=1 out=2 out=3 out=4 exit=0", numbers: numbers{53, 2, 4, 0}},
	{code: "func 0 n 0 -; const 3; set 0; a: get 0; zero b; get 0; call 1; get 0; const 1; sub; set 0; jump a; b: ret; func 1 n 0 -; get 0; defer 2; get 0; defer 2; ret" + tell, want: "out=3 out=3 out=2 out=2 out=1 out=1 exit=0", numbers: numbers{2 + 3*9 + 3 + 3*5 + 6*3, 3, 2, 0}},
	{code: "a: defer 1; jump a" + tells100, want: "fuel", numbers: numbers{plenty, 1, plenty / 2, 0}},
	// A number that is returned stays, whatever deferred calls do to locals.
	{code: "call 1; out; ret; func 0 n 1 0; addr 0; defer 2; const 7; set 0; get 0; ret; func 1 p 0 -; get 0; const 9; store; ret", want: "out=7 exit=0"},
	{code: "call 1; out; ret; func 0 n 1 0; addr 0; defer 2; const 7; ret; func 1 p 0 -; recover; drop; drop; get 0; const 9; store; ret", want: "out=7 exit=0"},
	{code: "const 40; call 1; add; out; ret; func 0 n 1 0; defer 2; const 2; ret; func 0 n 1 0; defer 3; const 3; ret; func 0 - 1 -; const 4; ret", want: "out=42 exit=0", numbers: numbers{13, 4, 1, 0}},
	// A function without a result ends with nothing, with a Keep too.
	{code: "const 5; call 1; out; ret; func 0 n 0 0; const 7; set 0; defer 2; ret" + nothing, want: "out=5 exit=0"},
	// exit ends the run: no deferred call is made.
	{code: "defer 1; const 3; exit" + tells100, want: "exit=3", numbers: numbers{3, 1, 1, 0}},
	{code: "defer 1; call 2; ret" + tells100 + "; " + head + "defer 1; defer 1; const 4; exit", want: "exit=4", numbers: numbers{6, 2, 3, 0}},
	{code: "defer 1; defer 2; ret" + tells100 + "; " + head + "const 4; exit", want: "exit=4", numbers: numbers{5, 2, 2, 0}},
	{code: "defer 1; defer 2; const 5; panic" + tells100 + "; " + head + "const 4; exit", want: "exit=4", numbers: numbers{6, 2, 2, 1}},
	{code: "defer 1; defer 2; const 5; panic" + tells100 + "; " + head + "recover; exit", want: "exit=1", numbers: numbers{6, 2, 2, 1}},
	{code: "defer 1; defer 2; const 5; panic" + tells100 + "; " + head + "defer 1; recover; drop; exit", want: "exit=5", numbers: numbers{8, 2, 2, 1}},
	{code: "call 1; ret; " + head + "call 2; ret; " + head + "const 4; exit", want: "exit=4", numbers: numbers{4, 3, 0, 0}},
	{code: "defer 1; ret; " + head + "defer 2; ret; " + head + "defer 1; const 2; exit", want: "exit=2", numbers: numbers{7, 3, 1, 0}},
	// The main function's end is the run's, with 0, whatever it has done.
	{code: "func 0 n 0 0; const 7; set 0; defer 1; const 1; panic" + quiet, want: "exit=0"},
	{code: "func 0 n 0 0; const 7; set 0; defer 1; ret" + quiet, want: "exit=0"},
	{code: "call 0; ret", want: "fuel", numbers: numbers{plenty, plenty + 1, 0, 0}},
	// A main function that is called again is called.
	{code: "in; zero a; call 0; const 2; out; ret; a: const 1; out; ret", tape: []uint64{1, 1, 0}, want: "in=1 in=1 in=0 out=1 out=2 out=2 exit=0", numbers: numbers{17, 3, 0, 0}},
	{code: "in; zero a; defer 0; const 2; out; ret; a: const 1; out; ret", tape: []uint64{1, 1, 0}, want: "in=1 out=2 in=1 out=2 in=0 out=1 exit=0", numbers: numbers{17, 3, 1, 0}},
}

func TestP6_1FramesEnds(t *testing.T) {
	check(t, deferExamples...)
}

// panicExamples: panics that nobody recovers.
var panicExamples = []example{
	// Through several frames, with and without deferred calls.
	{code: "call 1; const 1; out; ret; " + head + "call 2; const 2; out; ret; " + head + "const 3; panic", want: "panic=3", numbers: numbers{4, 3, 0, 1}},
	{code: "defer 3; call 1; const 1; out; ret; " + head + "call 2; const 2; out; ret; " + head + "const 3; panic" + tells100, want: "out=100 panic=3", numbers: numbers{8, 3, 1, 1}},
	{code: "const 1; defer 3; call 1; ret; " + head + "const 2; defer 3; call 2; ret; " + head + "const 3; defer 3; const 4; defer 3; const 9; panic" + tell, want: "out=4 out=3 out=2 out=1 panic=9", numbers: numbers{24, 4, 4, 1}},
	{code: "const 1; defer 3; call 1; ret; " + head + "call 2; ret; " + head + "const 3; defer 3; const 9; panic" + tell, want: "out=3 out=1 panic=9"},
	{code: "defer 1; ret; " + head + "defer 2; const 4; panic" + tells100, want: "out=100 panic=4", numbers: numbers{8, 3, 1, 1}},
	// Those of the operations, too.
	{code: "defer 1; const 1; const 0; rem; out; ret" + tells100, want: "out=100 " + byZero, numbers: numbers{7, 2, 1, 1}},
	{code: "defer 1; call 2; ret" + tells100 + "; " + head + "const 1; const 0; div; out; ret", want: "out=100 " + byZero},
	{code: "defer 1; const 1; const 0; div; out; ret" + catches, want: "out=1 out=18446744073709551615 exit=0"},
	{code: "const 0; const 0; div; out; ret", want: byZero},
	{code: "const 9223372036854775808; const 18446744073709551615; div; out; const 9223372036854775808; const 18446744073709551615; rem; out; ret", want: "out=9223372036854775808 out=0 exit=0"},
	// A panic in a deferred call takes the place of the one that called it.
	{code: "defer 1; const 5; panic" + panics6, want: "panic=6", numbers: numbers{5, 2, 1, 2}},
	{code: "defer 1; defer 2; const 5; panic" + panics6 + "; " + head + "const 7; panic", want: "panic=6", numbers: numbers{8, 2, 2, 2}},
	{code: "defer 1; defer 2; defer 1; ret" + tells100 + panics6, want: "out=100 out=100 panic=6", numbers: numbers{12, 2, 3, 1}},
	{code: "defer 1; const 5; panic; " + head + "defer 2; const 6; panic; " + head + "defer 3; const 7; panic; " + head + "const 8; panic", want: "panic=8", numbers: numbers{11, 4, 1, 4}},
	{code: "defer 1; const 5; panic; " + head + "call 2; ret; " + head + "call 3; ret; " + head + "const 8; panic", want: "panic=8", numbers: numbers{7, 4, 1, 2}},
	{code: "defer 1; defer 2; const 5; panic" + tells100 + "; " + head + "defer 1; const 6; panic", want: "out=100 out=100 panic=6", numbers: numbers{13, 3, 2, 2}},
	{code: "defer 1; ret" + panics6, want: "panic=6", numbers: numbers{4, 2, 1, 1}},
	{code: "const 1; defer 1; const 2; defer 1; const 3; panic; func 1 n 0 -; get 0; panic", want: "panic=1", numbers: numbers{10, 2, 2, 2}},
	{code: "defer 1; const 0; const 0; div; out; ret; func 0 p 0 -; get 0; load; drop; ret", want: byNull},
	// A deferred call that ends by itself leaves the panic as it is.
	{code: "defer 1; defer 2; const 5; panic; " + head + "call 2; ret" + tells100, want: "out=100 out=100 panic=5", numbers: numbers{12, 3, 2, 1}},
}

func TestP6_1Panics(t *testing.T) {
	check(t, panicExamples...)
}

// recoverExamples: where recover finds a panic, and where none.
var recoverExamples = []example{
	{code: "defer 1; const 5; panic" + catches, want: "out=1 out=5 exit=0", numbers: numbers{7, 2, 1, 1}},
	{code: "defer 1; const 0; panic" + catches, want: "out=1 out=0 exit=0"},
	{code: "call 1; const 2; out; ret; " + head + "defer 2; call 3; const 3; out; ret" + catches + "; " + head + "const 5; panic", want: "out=1 out=5 out=2 exit=0", numbers: numbers{12, 3, 1, 1}},
	// Under it the stack of the frame is as it was.
	{code: "defer 1; const 5; panic; " + head + "const 8; const 9; recover; out; out; out; out; ret", want: "out=1 out=5 out=9 out=8 exit=0"},
	// A second time in the frame.
	{code: "defer 1; const 5; panic; " + head + "recover; recover; out; out; out; out; ret", want: "out=0 out=0 out=1 out=5 exit=0"},
	{code: "defer 1; const 5; panic; " + head + "recover; out; out; recover; out; out; recover; out; out; ret", want: "out=1 out=5 out=0 out=0 out=0 out=0 exit=0"},
	// In a frame that such a frame calls, before and behind its own.
	{code: "defer 1; const 5; panic; " + head + "call 2; ret" + catches, want: "out=0 out=0 panic=5", numbers: numbers{9, 3, 1, 1}},
	{code: "defer 1; const 5; panic; " + head + "call 2; recover; out; out; call 2; ret" + catches, want: "out=0 out=0 out=1 out=5 out=0 out=0 exit=0"},
	{code: "defer 1; const 5; panic; " + head + "defer 2; ret" + catches, want: "out=0 out=0 panic=5", numbers: numbers{9, 3, 1, 1}},
	{code: "defer 1; const 5; panic; " + head + "recover; out; out; defer 2; ret" + catches, want: "out=1 out=5 out=0 out=0 exit=0"},
	{code: "defer 1; const 5; panic; " + head + "call 2; ret; " + head + "defer 3; ret" + catches, want: "out=0 out=0 panic=5"},
	// In a deferred call of a frame that ends without a panic.
	{code: "defer 1; ret" + catches, want: "out=0 out=0 exit=0", numbers: numbers{6, 2, 1, 0}},
	{code: "call 1; ret; " + head + "defer 2; ret" + catches, want: "out=0 out=0 exit=0"},
	{code: "defer 1; defer 1; const 5; panic" + catches, want: "out=1 out=5 out=0 out=0 exit=0", numbers: numbers{12, 2, 2, 1}},
	// In the first function, and in one that is called.
	{code: "recover; out; out; ret", want: "out=0 out=0 exit=0", numbers: numbers{4, 1, 0, 0}},
	{code: "call 1; ret" + catches, want: "out=0 out=0 exit=0"},
	{code: "defer 1; ret; " + head + "recover; out; out; defer 2; const 6; panic" + catches, want: "out=0 out=0 out=1 out=6 exit=0"},
	// Whoever recovers: not the one that was deferred in the frame that panics first.
	{code: "defer 1; call 2; ret" + catches + "; " + head + "defer 3; const 5; panic" + tells100, want: "out=100 out=1 out=5 exit=0"},
	{code: "defer 1; call 2; ret" + catches + "; " + head + "defer 3; const 5; panic; " + head + "call 1; ret", want: "out=0 out=0 out=1 out=5 exit=0"},
	{code: "defer 1; defer 2; const 5; panic" + catches + tells100, want: "out=100 out=1 out=5 exit=0"},
	// The frame below ends: what is behind its call is not executed, and its own deferred calls are made.
	{code: "call 1; const 2; out; ret; " + head + "defer 3; defer 2; const 5; panic" + quiet + tells100, want: "out=100 out=2 exit=0", numbers: numbers{15, 3, 2, 1}},
	{code: "call 1; const 2; out; ret; " + head + "defer 2; call 3; const 3; out; ret" + quiet + "; " + head + "call 4; ret; " + head + "const 9; panic", want: "out=2 exit=0"},
}

func TestP6_1Recover(t *testing.T) {
	check(t, recoverExamples...)
}

// What a function answers that was recovered.
var keepExamples = []example{
	{code: "call 1; out; ret; func 0 n 1 0; const 3; set 0; defer 2; const 9; panic" + quiet, want: "out=3 exit=0"},
	{code: "call 1; out; ret; func 0 n 1 0; defer 2; const 9; panic" + quiet, want: "out=0 exit=0"},
	{code: "call 1; out; ret; func 0 pnn 1 2; const 3; set 1; const 4; set 2; defer 2; const 9; panic" + quiet, want: "out=4 exit=0"},
	{code: "const 8; call 1; out; ret; func 1 nn 1 0; const 5; set 1; defer 2; const 9; panic" + quiet, want: "out=8 exit=0"},
	{code: "const 8; const 7; call 1; out; out; ret; func 1 nn 1 0; const 5; set 1; defer 2; const 9; get 0; panic" + quiet, want: "out=7 out=8 exit=0"},
	{code: "call 1; out; ret; func 0 n 1 0; const 3; set 0; defer 2; call 3; ret" + quiet + "; func 0 n 1 0; const 4; set 0; const 5; panic", want: "out=3 exit=0"},
	// Without a Keep, and without a result.
	{code: "const 8; call 1; out; ret; func 0 n 0 -; const 3; set 0; defer 2; const 9; panic" + quiet, want: "out=8 exit=0"},
	{code: "const 8; call 1; out; ret; func 0 n 0 0; const 3; set 0; defer 2; const 9; panic" + quiet, want: "out=8 exit=0"},
	// The local as it is when the frame ends: deferred calls before that store to it, those behind do so too late.
	{code: "call 1; out; ret; func 0 n 1 0; const 3; set 0; addr 0; defer 2; const 9; panic; func 1 p 0 -; recover; drop; drop; get 0; const 44; store; ret", want: "out=44 exit=0"},
	{code: "call 1; out; ret; func 0 n 1 0; const 3; set 0; addr 0; defer 2; const 9; panic; func 1 p 0 -; get 0; get 0; load; const 41; add; store; recover; drop; drop; ret", want: "out=44 exit=0"},
	{code: "call 1; out; ret; func 0 n 1 0; defer 2; addr 0; defer 3; const 9; panic" + quiet + "; func 1 p 0 -; get 0; const 44; store; ret", want: "out=44 exit=0"},
	{code: "call 1; out; ret; func 0 n 1 0; const 3; set 0; addr 0; defer 3; defer 2; const 9; panic" + quiet + "; func 1 p 0 -; get 0; const 44; store; get 0; load; out; ret", want: "out=44 out=3 exit=0"},
	{code: "call 1; out; ret; func 0 n 1 0; addr 0; defer 2; const 9; panic; func 1 p 0 -; get 0; const 44; store; get 0; defer 3; recover; drop; drop; ret; func 1 p 0 -; get 0; const 55; store; ret", want: "out=55 exit=0"},
	{code: "call 1; out; ret; func 0 nn 1 1; const 3; set 0; const 4; set 1; addr 0; defer 2; const 9; panic; func 1 p 0 -; recover; drop; drop; get 0; const 44; store; ret", want: "out=4 exit=0"},
	// What was to be returned is forgotten.
	{code: "call 1; out; ret; func 0 n 1 0; const 3; set 0; defer 2; defer 3; const 77; ret" + quiet + panics6, want: "out=3 exit=0", numbers: numbers{15, 3, 2, 1}},
	{code: "call 1; out; ret; func 0 n 1 0; const 3; set 0; defer 2; const 77; ret" + quiet, want: "out=77 exit=0"},
	// A frame that is recovered twice answers what its local is the second time.
	{code: "call 1; out; ret; func 0 n 1 0; const 3; set 0; defer 2; addr 0; defer 3; defer 2; const 9; panic" + quiet + "; func 1 p 0 -; get 0; const 44; store; const 8; panic", want: "out=44 exit=0", numbers: numbers{24, 3, 3, 1}},
	// The number of a deferred function that was recovered is ignored like any other's.
	{code: "call 1; out; ret; func 0 n 1 0; defer 2; const 7; ret; func 0 n 1 0; const 5; set 0; defer 3; const 9; panic" + quiet, want: "out=7 exit=0"},
	{code: "call 1; out; ret; func 0 n 1 0; const 4; set 0; defer 2; const 7; panic; func 0 n 1 0; recover; drop; drop; const 5; set 0; defer 3; const 9; panic" + quiet, want: "out=4 exit=0"},
	{code: "call 1; out; ret; func 0 n 1 0; const 4; set 0; defer 4; defer 2; const 7; panic; func 0 n 1 0; const 5; set 0; defer 3; const 9; panic" + quiet + catches, want: "out=1 out=7 out=4 exit=0"},
}

func TestP6_1Kept(t *testing.T) {
	check(t, keepExamples...)
}

// Panics in deferred calls, and panics that follow a recover.
var listExamples = []example{
	// Before a recover, in a row: the last one is recovered.
	{code: "defer 1; defer 2; const 5; panic" + catches + panics6, want: "out=1 out=6 exit=0", numbers: numbers{10, 2, 2, 2}},
	{code: "defer 1; const 7; defer 2; const 6; defer 2; const 5; panic" + catches + "; func 1 n 0 -; get 0; panic", want: "out=1 out=7 exit=0", numbers: numbers{15, 2, 3, 2}},
	{code: "defer 1; defer 2; const 5; panic" + catches + "; " + head + "defer 3; const 6; panic; " + head + "defer 4; const 7; panic; " + head + "const 8; panic", want: "out=1 out=8 exit=0", numbers: numbers{16, 4, 2, 4}},
	// In a deferred call whose own deferred call recovers it: the first one goes on.
	{code: "defer 1; const 5; panic; " + head + "defer 2; const 6; panic" + catches, want: "out=1 out=6 panic=5", numbers: numbers{10, 3, 1, 2}},
	{code: "defer 2; defer 1; const 5; panic; " + head + "defer 2; const 6; panic" + catches, want: "out=1 out=6 out=1 out=5 exit=0", numbers: numbers{15, 3, 2, 2}},
	{code: "defer 2; defer 1; const 5; panic; " + head + "call 3; const 7; out; ret" + catches + "; " + head + "defer 2; const 6; panic", want: "out=1 out=6 out=7 out=1 out=5 exit=0", numbers: numbers{19, 4, 2, 2}},
	{code: "defer 1; const 5; panic; " + head + "call 3; recover; out; out; ret" + catches + "; " + head + "defer 2; const 6; panic", want: "out=1 out=6 out=1 out=5 exit=0", numbers: numbers{15, 4, 1, 2}},
	{code: "defer 1; const 5; panic; " + head + "recover; out; out; call 3; recover; out; out; ret" + catches + "; " + head + "defer 2; const 6; panic", want: "out=1 out=5 out=1 out=6 out=0 out=0 exit=0"},
	// Behind a recover, in the same frame: the recovered one goes when that frame does.
	{code: "defer 1; const 5; panic; " + head + "recover; out; out; const 6; panic", want: "out=1 out=5 panic=6", numbers: numbers{8, 2, 1, 2}},
	{code: "defer 2; defer 1; const 5; panic; " + head + "recover; out; out; const 6; panic" + catches, want: "out=1 out=5 out=1 out=6 exit=0", numbers: numbers{13, 2, 2, 2}},
	{code: "call 3; out; ret; " + head + "recover; out; out; defer 2; const 6; panic" + catches + "; func 0 n 1 0; const 4; set 0; defer 1; const 5; panic", want: "out=1 out=5 out=1 out=6 out=4 exit=0", numbers: numbers{18, 4, 1, 2}},
	{code: "defer 1; const 5; panic; " + head + "recover; out; out; call 2; ret" + panics6, want: "out=1 out=5 panic=6", numbers: numbers{9, 3, 1, 2}},
	{code: "defer 1; const 5; panic; " + head + "recover; out; out; defer 2; ret" + panics6, want: "out=1 out=5 panic=6", numbers: numbers{10, 3, 1, 2}},
	{code: "defer 1; const 5; panic; " + head + "recover; out; out; const 1; const 0; div; out; ret", want: "out=1 out=5 " + byZero},
	// In the frame that ends because of it, and in the one that goes on.
	{code: "defer 2; defer 1; const 5; panic" + catches + panics6, want: "out=1 out=5 panic=6", numbers: numbers{4 + 4 + 2, 2, 2, 1}},
	{code: "defer 1; defer 2; defer 1; const 5; panic" + catches + panics6, want: "out=1 out=5 out=1 out=6 exit=0", numbers: numbers{5 + 4 + 2 + 4, 2, 3, 1}},
	{code: "call 1; const 6; panic; " + head + "defer 2; const 5; panic" + catches, want: "out=1 out=5 panic=6", numbers: numbers{3 + 3 + 4, 3, 1, 1}},
	{code: "defer 2; call 1; const 6; panic; " + head + "defer 2; const 5; panic" + catches, want: "out=1 out=5 out=1 out=6 exit=0", numbers: numbers{4 + 3 + 2*4, 3, 2, 1}},
	// Nearer and further.
	{code: "call 1; ret; " + head + "defer 2; defer 3; const 1; panic" + catches + "; " + head + "defer 2; const 2; panic", want: "out=1 out=2 out=1 out=1 exit=0"},
	{code: "defer 1; defer 2; const 1; panic; " + head + "call 3; ret" + nothing + catches, want: "out=0 out=0 panic=1"},
	// A panic amid the end of a frame below which another panic waits.
	{code: "defer 4; defer 1; const 5; panic; " + head + "defer 2; ret; " + head + "defer 3; const 6; panic" + nothing + catches, want: "out=1 out=6 exit=0", numbers: numbers{4 + 2 + 3 + 1 + 4, 4, 2, 2}},
	{code: "defer 4; defer 1; const 5; panic; " + head + "defer 3; defer 2; ret" + panics6 + quiet + catches, want: "out=1 out=5 exit=0", numbers: numbers{4 + 3 + 2 + 4 + 4, 3, 3, 2}},
	// The value is the one that was active last.
	{code: "const 1; defer 1; const 2; defer 1; const 3; defer 1; ret; func 1 n 0 -; get 0; panic", want: "panic=1", numbers: numbers{13, 2, 3, 2}},
}

func TestP6_1ListOfPanics(t *testing.T) {
	check(t, listExamples...)
}

// greatExamples: numbers that rise and fall again.
var greatExamples = []example{
	{code: "call 1; call 3; call 1; ret; " + head + "call 2; ret" + nothing + nothing, want: "exit=0", numbers: numbers{11, 3, 0, 0}},
	{code: "call 3; call 1; call 3; ret; " + head + "call 2; ret" + nothing + nothing, want: "exit=0", numbers: numbers{9, 3, 0, 0}},
	// Waiting calls of all frames together, of which some are made already.
	{code: "defer 3; call 1; call 2; ret; " + head + "defer 3; defer 3; ret; " + head + "defer 3; ret" + nothing, want: "exit=0", numbers: numbers{4 + 3 + 2 + 4, 3, 3, 0}},
	{code: "defer 3; call 2; call 1; ret; " + head + "defer 3; defer 3; ret; " + head + "defer 3; ret" + nothing, want: "exit=0", numbers: numbers{13, 3, 3, 0}},
	{code: "call 1; call 1; defer 2; ret; " + head + "defer 2; defer 2; ret" + nothing, want: "exit=0", numbers: numbers{15, 3, 2, 0}},
	{code: "defer 1; defer 1; ret; " + head + "defer 2; ret" + nothing, want: "exit=0", numbers: numbers{9, 3, 2, 0}},
	{code: "defer 1; defer 1; defer 1; ret; " + head + "defer 2; defer 2; ret" + nothing, want: "exit=0", numbers: numbers{4 + 9 + 6, 3, 4, 0}},
	// Panics that are recovered, one after the other, and one above the other.
	{code: "call 1; call 1; call 1; ret; " + head + "defer 2; const 5; panic" + quiet, want: "exit=0", numbers: numbers{25, 3, 1, 1}},
	{code: "call 1; call 3; call 1; ret; " + head + "defer 2; const 5; panic" + quiet + "; " + head + "defer 4; const 5; panic; " + head + "call 1; recover; drop; drop; ret", want: "exit=0", numbers: numbers{4 + 3*7 + 3 + 5, 5, 1, 2}},
	// A recovered panic is in the list as long as its frame has deferred calls to make.
	{code: "defer 1; const 5; panic; " + head + "defer 2; recover; drop; drop; ret; " + head + "defer 3; const 6; panic" + quiet, want: "exit=0", numbers: numbers{15, 4, 1, 2}},
	// A panic that takes another's place has been beside it.
	{code: "defer 1; defer 1; defer 1; defer 1; const 5; panic" + panics6, want: "panic=6", numbers: numbers{14, 2, 4, 2}},
}

func TestP6_1GreatestNumbers(t *testing.T) {
	check(t, greatExamples...)
}

// allExamples are the examples of all kinds.
func allExamples() []example {
	var list []example
	for _, x := range behind {
		list = append(list, x.example())
	}
	for _, l := range [][]example{chapterExamples, stepExamples, pointerExamples, tapeExamples, deferExamples, panicExamples, recoverExamples, keepExamples, listExamples, greatExamples} {
		list = append(list, l...)
	}
	return list
}

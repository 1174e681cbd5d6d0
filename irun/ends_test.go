package irun_test

import "testing"

// Graphs with which many examples end.
const (
	tell0    = " | graph params=0; out 0; ret -"          // its argument
	tell01   = " | graph params=0,1; out 0; out 1; ret -" // its two
	catches  = " | recover 1 2; out 2; out 1; ret -"      // whether there was a panic, and its value
	quiet    = " | recover 1 2; ret -"
	nothing  = " | ret -"
	panics6  = " | fail 6"
	tells100 = " | tell 100; ret -"
)

// deferExamples: how frames end, without panics.
var deferExamples = []example{
	// The last first, each once.
	{graphs: "const 0 1; defer 1 0; const 0 2; defer 1 0; const 0 3; defer 1 0; tell 9; ret -" + tell0, want: "out=9 out=3 out=2 out=1 exit=0", numbers: numbers{15, 2, 3, 0}},
	{graphs: "const 0 3; const 1 4; defer 1 0 1; const 0 1; const 1 2; defer 1 0 1; ret -" + tell01, want: "out=1 out=2 out=3 out=4 exit=0", numbers: numbers{13, 2, 2, 0}},
	{graphs: "defer 1; defer 2; defer 1; ret -" + tells100 + " | tell 200; ret -", want: "out=100 out=200 out=100 exit=0", numbers: numbers{13, 2, 3, 0}},
	{graphs: "defer 1; ret -" + nothing, want: "exit=0", numbers: numbers{3, 2, 1, 0}},
	// With arguments as they were.
	{graphs: "const 0 5; defer 1 0; const 0 6; defer 1 0; const 0 7; out 0; ret -" + tell0, want: "out=7 out=6 out=5 exit=0"},
	{graphs: "const 0 5; const 1 6; defer 1 0 1; const 0 7; const 1 8; defer 1 0 1; const 0 9; const 1 10; call 1 - 0 1; ret -" + tell01, want: "out=9 out=10 out=7 out=8 out=5 out=6 exit=0"},
	{graphs: "const 0 1; const 1 2; const 2 3; const 3 4; defer 1 0 1 2 3; const 1 5; out 1; ret - | graph params=0,1,2,3; out 0; out 1; out 2; out 3; ret -", want: "out=5 out=1 out=2 out=3 out=4 exit=0"},
	{graphs: "in 0; defer 1 0; in 0; defer 1 0; in 0; out 0; ret -" + tell0, tape: []uint64{7, 8, 9}, want: "in=7 in=8 in=9 out=9 out=8 out=7 exit=0"},
	// A deferred call that changes its own arguments changes nobody else's.
	{graphs: "const 0 4; defer 1 0; defer 1 0; ret - | graph params=0; out 0; const 0 8; out 0; ret -", want: "out=4 out=8 out=4 out=8 exit=0"},
	// Deferred calls that defer.
	{graphs: "const 0 3; defer 1 0; ret - | graph params=0; move 16 0; branch 0 end; const 1 1; sub 0 0 1; defer 1 0; end: out 16; ret -", want: "out=3 out=2 out=1 out=0 exit=0", numbers: numbers{3 + 3*7 + 4, 5, 1, 0}},
	{graphs: "defer 1; tell 1; ret - | defer 2; defer 3; tell 2; ret - | tell 3; ret - | defer 2; tell 4; ret -", want: "out=1 out=2 out=4 out=3 out=3 exit=0", numbers: numbers{4 + 5 + 4 + 2*3, 4, 2, 0}},
	{graphs: "defer 2; defer 1; ret - | defer 3; tell 1; ret - | tell 2; ret - | tell 3; ret -", want: "out=1 out=3 out=2 exit=0", numbers: numbers{13, 3, 2, 0}},
	{graphs: "defer 1; ret - | defer 1; ret -", want: "fuel", numbers: numbers{plenty, 1 + plenty/2, 1, 0}},
	// The number of a deferred call is ignored, wherever it is.
	{graphs: "call 1 0; out 0; ret - | graph result; defer 2; const 5 7; ret 5 | graph result; const 0 9; ret 0", want: "out=7 exit=0", numbers: numbers{8, 3, 1, 0}},
	{graphs: "const 16 5; call 1 -; out 16; ret - | defer 2; ret - | graph result; const 16 9; ret 16", want: "out=5 exit=0"},
	{graphs: "defer 1; ret - | graph result; const 0 9; ret 0", want: "exit=0"},
	{graphs: "defer 1; fail 3 | graph result; const 0 9; ret 0", want: "panic=3"},
	{graphs: "call 1 0; out 0; ret - | graph result keep=0; const 1 2; set 0 1; defer 2; fail 8 | graph result; recover 1 2; const 0 9; ret 0", want: "out=2 exit=0"},
	{graphs: "defer 1; ret - | graph result; call 2 0; out 0; const 0 9; ret 0 | graph result; const 0 8; ret 0", want: "out=8 exit=0"},
	// In called functions, at each one's own end.
	{graphs: "defer 1; call 2 -; tell 2; ret - | tell 1; ret - | defer 3; tell 4; ret - | tell 3; ret -", want: "out=4 out=3 out=2 out=1 exit=0", numbers: numbers{15, 3, 2, 0}},
	{graphs: "call 1 -; call 1 -; tell 5; ret - | const 0 6; defer 2 0; tell 7; ret -" + tell0, want: "out=7 out=6 out=7 out=6 out=5 exit=0", numbers: numbers{5 + 2*5 + 2*2, 3, 1, 0}},
	{graphs: "const 0 3; call 1 0 0; out 0; ret - | graph params=0 result; defer 2 0; move 16 0; branch 0 end; const 1 1; sub 0 0 1; call 1 0 0; add 0 0 16; ret 0; end: const 0 50; ret 0" + tell0, want: "out=0 out=1 out=2 out=3 out=56 exit=0", numbers: numbers{4 + 3*8 + 5 + 4*2, 6, 4, 0}},
	// In loops.
	{graphs: "const 0 4; const 1 1; top: branch 0 end; defer 1 0; sub 0 0 1; jump top; end: ret -" + tell0, want: "out=1 out=2 out=3 out=4 exit=0", numbers: numbers{2 + 4*4 + 2 + 4*2, 2, 4, 0}},
	{graphs: "const 16 3; const 17 1; top: branch 16 end; move 0 16; call 1 - 0; sub 16 16 17; jump top; end: ret - | graph params=0; defer 2 0; defer 2 0; ret -" + tell0, want: "out=3 out=3 out=2 out=2 out=1 out=1 exit=0", numbers: numbers{2 + 3*5 + 2 + 3*3 + 6*2, 3, 2, 0}},
	{graphs: "top: defer 1; jump top" + tells100, want: "fuel", numbers: numbers{plenty, 1, plenty / 2, 0}},
	// A number that is returned stays, whatever deferred calls do to cells.
	{graphs: "call 1 0; out 0; ret - | graph result keep=0 ptrs=0; addr 0 0; defer 2 0; const 16 7; set 0 16; get 16 0; ret 16 | graph params=0 ptrs=0; const 16 9; store 0 16; ret -", want: "out=7 exit=0"},
	{graphs: "call 1 0; out 0; ret - | graph result keep=0 ptrs=0; addr 0 0; defer 2 0; const 16 7; ret 16 | graph params=0 ptrs=0; recover 1 2; const 16 9; store 0 16; ret -", want: "out=7 exit=0"},
	{graphs: "const 16 40; call 1 0; add 0 0 16; out 0; ret - | graph result; defer 2; const 0 2; ret 0 | graph result; defer 3; const 0 3; ret 0 | graph result; const 0 4; ret 0", want: "out=42 exit=0", numbers: numbers{13, 4, 1, 0}},
	// exit ends the run: no deferred call is made.
	{graphs: "defer 1; quit 3" + tells100, want: "exit=3", numbers: numbers{3, 1, 1, 0}},
	{graphs: "defer 1; call 2 -; ret -" + tells100 + " | defer 1; defer 1; quit 4", want: "exit=4", numbers: numbers{6, 2, 3, 0}},
	{graphs: "defer 1; defer 2; ret -" + tells100 + " | quit 4", want: "exit=4", numbers: numbers{5, 2, 2, 0}},
	{graphs: "defer 1; defer 2; fail 5" + tells100 + " | quit 4", want: "exit=4", numbers: numbers{6, 2, 2, 1}},
	{graphs: "defer 1; defer 2; fail 5" + tells100 + " | recover 1 2; exit 2", want: "exit=1", numbers: numbers{6, 2, 2, 1}},
	{graphs: "defer 1; defer 2; fail 5" + tells100 + " | defer 1; recover 1 2; exit 1", want: "exit=5", numbers: numbers{7, 2, 2, 1}},
	{graphs: "defer 1; ret - | defer 2; ret - | defer 1; quit 2", want: "exit=2", numbers: numbers{7, 3, 1, 0}},
}

func TestP8_1FramesEnds(t *testing.T) {
	check(t, deferExamples...)
}

// panicExamples: panics that nobody recovers.
var panicExamples = []example{
	// Through several frames, with and without deferred calls.
	{graphs: "call 1 -; tell 1; ret - | call 2 -; tell 2; ret - | fail 3", want: "panic=3", numbers: numbers{4, 3, 0, 1}},
	{graphs: "defer 3; call 1 -; tell 1; ret - | call 2 -; tell 2; ret - | fail 3" + tells100, want: "out=100 panic=3", numbers: numbers{8, 3, 1, 1}},
	{graphs: "const 0 1; defer 3 0; call 1 -; ret - | const 0 2; defer 3 0; call 2 -; ret - | const 0 3; defer 3 0; const 0 4; defer 3 0; fail 9" + tell0, want: "out=4 out=3 out=2 out=1 panic=9", numbers: numbers{20, 4, 4, 1}},
	{graphs: "const 0 1; defer 3 0; call 1 -; ret - | call 2 -; ret - | const 0 3; defer 3 0; fail 9" + tell0, want: "out=3 out=1 panic=9"},
	{graphs: "defer 1; ret - | defer 2; fail 4" + tells100, want: "out=100 panic=4", numbers: numbers{8, 3, 1, 1}},
	// Those of the operations, too.
	{graphs: "defer 1; const 1 1; rem 1 1 2; out 1; ret -" + tells100, want: "out=100 " + byZero, numbers: numbers{6, 2, 1, 1}},
	{graphs: "defer 1; call 2 -; ret -" + tells100 + " | const 1 1; div 1 1 20; out 1; ret -", want: "out=100 " + byZero},
	{graphs: "defer 1; const 1 1; div 1 1 2; out 1; ret -" + catches, want: "out=1 out=18446744073709551615 exit=0"},
	{graphs: "defer 1; const 1 1; rem 1 1 2; out 1; ret -" + catches, want: "out=1 out=18446744073709551615 exit=0"},
	// A panic in a deferred call takes the place of the one that called it.
	{graphs: "defer 1; fail 5" + panics6, want: "panic=6", numbers: numbers{5, 2, 1, 2}},
	{graphs: "defer 1; defer 2; fail 5" + panics6 + " | fail 7", want: "panic=6", numbers: numbers{8, 2, 2, 2}},
	{graphs: "defer 1; defer 2; defer 1; ret -" + tells100 + panics6, want: "out=100 out=100 panic=6", numbers: numbers{12, 2, 3, 1}},
	{graphs: "defer 1; fail 5 | defer 2; fail 6 | defer 3; fail 7 | fail 8", want: "panic=8", numbers: numbers{11, 4, 1, 4}},
	{graphs: "defer 1; fail 5 | call 2 -; ret - | call 3 -; ret - | fail 8", want: "panic=8", numbers: numbers{7, 4, 1, 2}},
	{graphs: "defer 1; defer 2; fail 5" + tells100 + " | defer 1; fail 6", want: "out=100 out=100 panic=6", numbers: numbers{13, 3, 2, 2}},
	{graphs: "defer 1; ret -" + panics6, want: "panic=6", numbers: numbers{4, 2, 1, 1}},
	{graphs: "const 0 1; defer 1 0; const 0 2; defer 1 0; fail 3 | graph params=0; panic 0", want: "panic=1", numbers: numbers{8, 2, 2, 2}},
	{graphs: "defer 1; const 1 0; div 1 1 1; ret - | graph ptrs=20; load 1 20; ret -", want: byNull},
	// A deferred call that ends by itself leaves the panic as it is.
	{graphs: "defer 1; defer 2; fail 5 | call 2 -; ret -" + tells100, want: "out=100 out=100 panic=5", numbers: numbers{12, 3, 2, 1}},
}

func TestP8_1Panics(t *testing.T) {
	check(t, panicExamples...)
}

// recoverExamples: where recover finds a panic, and where none.
var recoverExamples = []example{
	{graphs: "defer 1; fail 5" + catches, want: "out=1 out=5 exit=0", numbers: numbers{7, 2, 1, 1}},
	{graphs: "defer 1; fail 0" + catches, want: "out=1 out=0 exit=0"},
	{graphs: "defer 1; fail 5 | const 20 9; const 21 9; recover 20 21; out 20; out 21; ret -", want: "out=5 out=1 exit=0"},
	{graphs: "defer 1; fail 5 | const 20 9; const 21 9; recover 21 20; out 20; out 21; ret -", want: "out=1 out=5 exit=0"},
	{graphs: "call 1 -; tell 2; ret - | defer 2; call 3 -; tell 3; ret -" + catches + " | fail 5", want: "out=1 out=5 out=2 exit=0", numbers: numbers{12, 3, 1, 1}},
	// A second time in the frame.
	{graphs: "defer 1; fail 5 | recover 1 2; recover 3 4; out 4; out 3; out 2; out 1; ret -", want: "out=0 out=0 out=1 out=5 exit=0"},
	{graphs: "defer 1; fail 5 | recover 1 2; out 2; out 1; recover 1 2; out 2; out 1; recover 2 1; out 2; out 1; ret -", want: "out=1 out=5 out=0 out=0 out=0 out=0 exit=0"},
	// In a frame that such a frame calls, before and behind its own.
	{graphs: "defer 1; fail 5 | call 2 -; ret -" + catches, want: "out=0 out=0 panic=5", numbers: numbers{9, 3, 1, 1}},
	{graphs: "defer 1; fail 5 | call 2 -; recover 1 2; out 2; out 1; call 2 -; ret -" + catches, want: "out=0 out=0 out=1 out=5 out=0 out=0 exit=0"},
	{graphs: "defer 1; fail 5 | defer 2; ret -" + catches, want: "out=0 out=0 panic=5", numbers: numbers{9, 3, 1, 1}},
	{graphs: "defer 1; fail 5 | recover 1 2; out 2; out 1; defer 2; ret -" + catches, want: "out=1 out=5 out=0 out=0 exit=0"},
	{graphs: "defer 1; fail 5 | call 2 -; ret - | defer 3; ret -" + catches, want: "out=0 out=0 panic=5"},
	// In a deferred call of a frame that ends without a panic.
	{graphs: "defer 1; ret -" + catches, want: "out=0 out=0 exit=0", numbers: numbers{6, 2, 1, 0}},
	{graphs: "call 1 -; ret - | defer 2; ret -" + catches, want: "out=0 out=0 exit=0"},
	{graphs: "defer 1; defer 1; fail 5" + catches, want: "out=1 out=5 out=0 out=0 exit=0", numbers: numbers{12, 2, 2, 1}},
	// In the first graph, and in one that is called.
	{graphs: "const 1 7; const 2 8; recover 1 2; out 2; out 1; ret -", want: "out=0 out=0 exit=0", numbers: numbers{6, 1, 0, 0}},
	{graphs: "call 1 -; ret -" + catches, want: "out=0 out=0 exit=0"},
	{graphs: "defer 1; ret - | recover 1 2; out 2; out 1; defer 2; fail 6" + catches, want: "out=0 out=0 out=1 out=6 exit=0"},
	// Whoever recovers: not the one that was deferred in the frame that panics first.
	{graphs: "defer 1; call 2 -; ret -" + catches + " | defer 3; fail 5" + tells100, want: "out=100 out=1 out=5 exit=0"},
	{graphs: "defer 1; call 2 -; ret -" + catches + " | defer 3; fail 5 | call 1 -; ret -", want: "out=0 out=0 out=1 out=5 exit=0"},
	{graphs: "defer 1; defer 2; fail 5" + catches + tells100, want: "out=100 out=1 out=5 exit=0"},
	// The frame below ends: what is behind its call is not executed, and its own deferred calls are made.
	{graphs: "call 1 -; tell 2; ret - | defer 3; defer 2; fail 5" + quiet + tells100, want: "out=100 out=2 exit=0", numbers: numbers{4 + 4 + 2 + 3, 3, 2, 1}},
	{graphs: "call 1 -; tell 2; ret - | defer 2; call 3 -; tell 3; ret -" + quiet + " | call 4 -; ret - | fail 9", want: "out=2 exit=0"},
}

func TestP8_1Recover(t *testing.T) {
	check(t, recoverExamples...)
}

// keepExamples: what a graph answers that was recovered.
var keepExamples = []example{
	{graphs: "call 1 0; out 0; ret - | graph result keep=0; const 1 3; set 0 1; defer 2; fail 9" + quiet, want: "out=3 exit=0", numbers: numbers{3 + 5 + 2, 3, 1, 1}},
	{graphs: "call 1 0; out 0; ret - | graph result keep=0; defer 2; fail 9" + quiet, want: "out=0 exit=0"},
	{graphs: "call 1 0; out 0; ret - | graph result keep=2; const 1 3; set 1 1; const 1 4; set 2 1; defer 2; fail 9" + quiet, want: "out=4 exit=0"},
	{graphs: "call 1 0; out 0; ret - | graph result keep=3; const 1 4; set 3 1; defer 2; fail 9" + quiet, want: "out=4 exit=0"},
	{graphs: "const 0 8; call 1 0 0; out 0; ret - | graph params=0 init=0 result keep=0; const 1 5; set 1 1; defer 2; fail 9" + quiet, want: "out=8 exit=0"},
	{graphs: "const 16 8; call 1 0; out 0; out 16; ret - | graph result keep=0; const 1 3; set 0 1; defer 2; call 3 0; ret 0" + quiet + " | graph result keep=0; const 1 4; set 0 1; fail 5", want: "out=3 out=8 exit=0"},
	// A graph that keeps nothing answers 0; one without a result nothing, with a Keep too.
	{graphs: "call 1 0; out 0; ret - | graph result; const 1 3; set 0 1; defer 2; fail 9" + quiet, want: "out=0 exit=0"},
	{graphs: "const 0 7; call 1 0; out 0; ret - | graph result; const 1 3; set 0 1; const 2 77; defer 2; call 3 0; ret 2" + quiet + " | graph result; fail 9", want: "out=0 exit=0"},
	{graphs: "const 16 8; call 1 -; out 16; ret - | const 1 3; set 0 1; defer 2; fail 9" + quiet, want: "out=8 exit=0"},
	{graphs: "const 16 8; call 1 -; out 16; ret - | graph keep=0; const 1 3; set 0 1; defer 2; fail 9" + quiet, want: "out=8 exit=0"},
	{graphs: "graph keep=0; const 1 7; set 0 1; defer 1; fail 1" + quiet, want: "exit=0"},
	{graphs: "graph keep=0; const 1 7; set 0 1; defer 1; ret -" + quiet, want: "exit=0"},
	// The cell as it is when the frame that recovered ends: deferred calls before that store to it, those behind do so too late.
	{graphs: "call 1 0; out 0; ret - | graph result keep=0 ptrs=0; const 1 3; set 0 1; addr 0 0; defer 2 0; fail 9 | graph params=0 ptrs=0; recover 1 2; const 1 44; store 0 1; ret -", want: "out=44 exit=0"},
	{graphs: "call 1 0; out 0; ret - | graph result keep=0 ptrs=0; const 1 3; set 0 1; addr 0 0; defer 2 0; fail 9 | graph params=0 ptrs=0; load 1 0; const 2 41; add 1 1 2; store 0 1; recover 1 2; ret -", want: "out=44 exit=0"},
	{graphs: "call 1 0; out 0; ret - | graph result keep=0 ptrs=0; defer 2; addr 0 0; defer 3 0; fail 9" + quiet + " | graph params=0 ptrs=0; const 1 44; store 0 1; ret -", want: "out=44 exit=0"},
	{graphs: "call 1 0; out 0; ret - | graph result keep=0 ptrs=0; const 1 3; set 0 1; addr 0 0; defer 3 0; defer 2; fail 9" + quiet + " | graph params=0 ptrs=0; const 1 44; store 0 1; load 2 0; out 2; ret -", want: "out=44 out=3 exit=0"},
	{graphs: "call 1 0; out 0; ret - | graph result keep=0 ptrs=0; addr 0 0; defer 2 0; fail 9 | graph params=0 ptrs=0; const 1 44; store 0 1; defer 3 0; recover 1 2; ret - | graph params=0 ptrs=0; const 1 55; store 0 1; ret -", want: "out=55 exit=0"},
	{graphs: "call 1 0; out 0; ret - | graph result keep=1 ptrs=0; const 1 3; set 0 1; const 1 4; set 1 1; addr 0 0; defer 2 0; fail 9 | graph params=0 ptrs=0; recover 1 2; const 1 44; store 0 1; ret -", want: "out=4 exit=0"},
	// What was to be returned is forgotten.
	{graphs: "call 1 0; out 0; ret - | graph result keep=0; const 1 3; set 0 1; defer 2; defer 3; const 0 77; ret 0" + quiet + panics6, want: "out=3 exit=0", numbers: numbers{3 + 6 + 2 + 2, 3, 2, 1}},
	{graphs: "call 1 0; out 0; ret - | graph result keep=0; const 1 3; set 0 1; defer 2; const 0 77; ret 0" + quiet, want: "out=77 exit=0"},
	// A frame that is recovered twice answers what its cell is the second time.
	{graphs: "call 1 0; out 0; ret - | graph result keep=0 ptrs=0; const 1 3; set 0 1; defer 2; addr 0 0; defer 3 0; defer 2; fail 9" + quiet + " | graph params=0 ptrs=0; const 1 44; store 0 1; fail 8", want: "out=44 exit=0", numbers: numbers{3 + 8 + 2 + 4 + 2, 3, 3, 1}},
	// The number of a deferred graph that was recovered is ignored like any other's.
	{graphs: "call 1 0; out 0; ret - | graph result keep=0; defer 2; const 0 7; ret 0 | graph result keep=0; const 1 5; set 0 1; defer 3; fail 9" + quiet, want: "out=7 exit=0"},
	{graphs: "call 1 0; out 0; ret - | graph result keep=0; const 1 4; set 0 1; defer 2; fail 7 | graph result keep=0; recover 1 2; const 1 5; set 0 1; defer 3; fail 9" + quiet, want: "out=4 exit=0"},
	{graphs: "call 1 0; out 0; ret - | graph result keep=0; const 1 4; set 0 1; defer 4; defer 2; fail 7 | graph result keep=0; const 1 5; set 0 1; defer 3; fail 9" + quiet + catches, want: "out=1 out=7 out=4 exit=0"},
	// Read free the number has a place of its own, or none.
	{graphs: "const 0 8; call 1 20; out 0; out 20; ret - | graph result keep=0; const 1 3; set 0 1; defer 2; fail 9" + quiet, want: "out=8 out=3 exit=0", in: free},
	{graphs: "const 0 8; call 1 -; out 0; ret - | graph result keep=0; const 1 3; set 0 1; defer 2; fail 9" + quiet, want: "out=8 exit=0", in: free},
}

func TestP8_1Kept(t *testing.T) {
	check(t, keepExamples...)
}

// listExamples: panics in deferred calls, and panics that follow a recover.
var listExamples = []example{
	// Before a recover, in a row: the last one is recovered.
	{graphs: "defer 1; defer 2; fail 5" + catches + panics6, want: "out=1 out=6 exit=0", numbers: numbers{10, 2, 2, 2}},
	{graphs: "defer 1; const 0 7; defer 2 0; const 0 6; defer 2 0; fail 5" + catches + " | graph params=0; panic 0", want: "out=1 out=7 exit=0", numbers: numbers{13, 2, 3, 2}},
	{graphs: "defer 1; defer 2; fail 5" + catches + " | defer 3; fail 6 | defer 4; fail 7 | fail 8", want: "out=1 out=8 exit=0", numbers: numbers{16, 4, 2, 4}},
	// In a deferred call whose own deferred call recovers it: the first one goes on.
	{graphs: "defer 1; fail 5 | defer 2; fail 6" + catches, want: "out=1 out=6 panic=5", numbers: numbers{10, 3, 1, 2}},
	{graphs: "defer 2; defer 1; fail 5 | defer 2; fail 6" + catches, want: "out=1 out=6 out=1 out=5 exit=0", numbers: numbers{15, 3, 2, 2}},
	{graphs: "defer 2; defer 1; fail 5 | call 3 -; tell 7; ret -" + catches + " | defer 2; fail 6", want: "out=1 out=6 out=7 out=1 out=5 exit=0", numbers: numbers{19, 4, 2, 2}},
	{graphs: "defer 1; fail 5 | call 3 -; recover 1 2; out 2; out 1; ret -" + catches + " | defer 2; fail 6", want: "out=1 out=6 out=1 out=5 exit=0", numbers: numbers{15, 4, 1, 2}},
	{graphs: "defer 1; fail 5 | recover 1 2; out 2; out 1; call 3 -; recover 1 2; out 2; out 1; ret -" + catches + " | defer 2; fail 6", want: "out=1 out=5 out=1 out=6 out=0 out=0 exit=0"},
	// Behind a recover, in the same frame: the recovered one goes when that frame does.
	{graphs: "defer 1; fail 5 | recover 1 2; out 2; out 1; fail 6", want: "out=1 out=5 panic=6", numbers: numbers{8, 2, 1, 2}},
	{graphs: "defer 2; defer 1; fail 5 | recover 1 2; out 2; out 1; fail 6" + catches, want: "out=1 out=5 out=1 out=6 exit=0", numbers: numbers{13, 2, 2, 2}},
	{graphs: "call 3 0; out 0; ret - | recover 1 2; out 2; out 1; defer 2; fail 6" + catches + " | graph result keep=0; const 1 4; set 0 1; defer 1; fail 5", want: "out=1 out=5 out=1 out=6 out=4 exit=0", numbers: numbers{18, 4, 1, 2}},
	{graphs: "defer 1; fail 5 | recover 1 2; out 2; out 1; call 2 -; ret -" + panics6, want: "out=1 out=5 panic=6", numbers: numbers{9, 3, 1, 2}},
	{graphs: "defer 1; fail 5 | recover 1 2; out 2; out 1; defer 2; ret -" + panics6, want: "out=1 out=5 panic=6", numbers: numbers{10, 3, 1, 2}},
	{graphs: "defer 1; fail 5 | recover 1 2; out 2; out 1; div 3 3 4; out 3; ret -", want: "out=1 out=5 " + byZero},
	// In the frame that ends because of it, and in the one that goes on.
	{graphs: "defer 2; defer 1; fail 5" + catches + panics6, want: "out=1 out=5 panic=6", numbers: numbers{4 + 4 + 2, 2, 2, 1}},
	{graphs: "defer 1; defer 2; defer 1; fail 5" + catches + panics6, want: "out=1 out=5 out=1 out=6 exit=0", numbers: numbers{5 + 4 + 2 + 4, 2, 3, 1}},
	{graphs: "call 1 -; fail 6 | defer 2; fail 5" + catches, want: "out=1 out=5 panic=6", numbers: numbers{3 + 3 + 4, 3, 1, 1}},
	{graphs: "defer 2; call 1 -; fail 6 | defer 2; fail 5" + catches, want: "out=1 out=5 out=1 out=6 exit=0", numbers: numbers{4 + 3 + 2*4, 3, 2, 1}},
	// Nearer and further.
	{graphs: "call 1 -; ret - | defer 2; defer 3; fail 1" + catches + " | defer 2; fail 2", want: "out=1 out=2 out=1 out=1 exit=0"},
	{graphs: "defer 1; defer 2; fail 1 | call 3 -; ret -" + nothing + catches, want: "out=0 out=0 panic=1"},
	// A panic amid the end of a frame below which another panic waits.
	{graphs: "defer 4; defer 1; fail 5 | defer 2; ret - | defer 3; fail 6" + nothing + catches, want: "out=1 out=6 exit=0", numbers: numbers{4 + 2 + 3 + 1 + 4, 4, 2, 2}},
	{graphs: "defer 4; defer 1; fail 5 | defer 3; defer 2; ret -" + panics6 + quiet + catches, want: "out=1 out=5 exit=0", numbers: numbers{4 + 3 + 2 + 2 + 4, 3, 3, 2}},
	// The value is the one that was active last.
	{graphs: "const 0 1; defer 1 0; const 0 2; defer 1 0; const 0 3; defer 1 0; ret - | graph params=0; panic 0", want: "panic=1", numbers: numbers{10, 2, 3, 2}},
}

func TestP8_1ListOfPanics(t *testing.T) {
	check(t, listExamples...)
}

// greatExamples: numbers that rise and fall again.
var greatExamples = []example{
	{graphs: "call 1 -; call 3 -; call 1 -; ret - | call 2 -; ret -" + nothing + nothing, want: "exit=0", numbers: numbers{11, 3, 0, 0}},
	{graphs: "call 3 -; call 1 -; call 3 -; ret - | call 2 -; ret -" + nothing + nothing, want: "exit=0", numbers: numbers{9, 3, 0, 0}},
	// Waiting calls of all frames together, of which some are made already.
	{graphs: "defer 3; call 1 -; call 2 -; ret - | defer 3; defer 3; ret - | defer 3; ret -" + nothing, want: "exit=0", numbers: numbers{4 + 3 + 2 + 4, 3, 3, 0}},
	{graphs: "defer 3; call 2 -; call 1 -; ret - | defer 3; defer 3; ret - | defer 3; ret -" + nothing, want: "exit=0", numbers: numbers{13, 3, 3, 0}},
	{graphs: "call 1 -; call 1 -; defer 2; ret - | defer 2; defer 2; ret -" + nothing, want: "exit=0", numbers: numbers{15, 3, 2, 0}},
	{graphs: "defer 1; defer 1; ret - | defer 2; ret -" + nothing, want: "exit=0", numbers: numbers{9, 3, 2, 0}},
	{graphs: "defer 1; defer 1; defer 1; ret - | defer 2; defer 2; ret -" + nothing, want: "exit=0", numbers: numbers{4 + 9 + 6, 3, 4, 0}},
	// Panics that are recovered, one after the other, and one above the other.
	{graphs: "call 1 -; call 1 -; call 1 -; ret - | defer 2; fail 5" + quiet, want: "exit=0", numbers: numbers{4 + 3*5, 3, 1, 1}},
	{graphs: "call 1 -; call 3 -; call 1 -; ret - | defer 2; fail 5" + quiet + " | defer 4; fail 5 | call 1 -; recover 1 2; ret -", want: "exit=0", numbers: numbers{4 + 3*5 + 3 + 3, 5, 1, 2}},
	// A recovered panic is in the list as long as its frame has deferred calls to make.
	{graphs: "defer 1; fail 5 | defer 2; recover 1 2; ret - | defer 3; fail 6" + quiet, want: "exit=0", numbers: numbers{3 + 3 + 3 + 2, 4, 1, 2}},
	// A panic that takes another's place has been beside it.
	{graphs: "defer 1; defer 1; defer 1; defer 1; fail 5" + panics6, want: "panic=6", numbers: numbers{14, 2, 4, 2}},
}

func TestP8_1GreatestNumbers(t *testing.T) {
	check(t, greatExamples...)
}

// framesExamples are those of how frames and panics end.
func framesExamples() []example {
	var list []example
	for _, l := range [][]example{deferExamples, panicExamples, recoverExamples, keepExamples, listExamples, greatExamples} {
		list = append(list, l...)
	}
	return list
}

// allExamples are the examples of all kinds, but those of the operations.
func allExamples() []example {
	list := framesExamples()
	for _, l := range [][]example{chapterExamples, nodeExamples, zeroExamples, initExamples, pointerExamples} {
		list = append(list, l...)
	}
	for _, l := range [][]example{boundPointers, callRegisters(), deferredRegisters(), recoveredRegisters()} {
		for _, x := range l {
			x.in = bound
			list = append(list, x)
		}
	}
	return list
}

package irun_test

import (
	"math"
	"math/rand"
	"strconv"
	"strings"
	"testing"

	"windlass/api"
	"windlass/trace"
)

// zeroExamples: what frames begin with.
var zeroExamples = []example{
	{graphs: "out 0; out 15; out 16; out 23; get 1 0; out 1; get 1 3; out 1; ret -", want: "out=0 out=0 out=0 out=0 out=0 out=0 exit=0"},
	// Each frame again, whatever others have left.
	{graphs: "call 1 -; call 1 -; ret - | out 16; out 23; get 1 0; out 1; get 1 3; out 1; const 16 5; const 23 6; set 0 16; set 3 23; ret -", want: "out=0 out=0 out=0 out=0 out=0 out=0 out=0 out=0 exit=0"},
	{graphs: "call 1 -; call 1 -; ret - | out 0; out 15; const 0 5; const 15 6; ret -", want: "out=0 out=0 out=0 out=0 exit=0", in: free},
	{graphs: "defer 1; defer 1; ret - | out 16; get 17 1; out 17; const 16 5; set 1 16; ret -", want: "out=0 out=0 out=0 out=0 exit=0"},
	{graphs: "defer 1; defer 1; ret - | out 0; out 12; const 0 5; const 12 5; ret -", want: "out=0 out=0 out=0 out=0 exit=0", in: free},
	{graphs: "defer 1; defer 1; fail 3 | out 16; get 17 1; out 17; const 16 5; set 1 16; ret -", want: "out=0 out=0 out=0 out=0 panic=3"},
	{graphs: "const 16 5; set 0 16; call 1 -; call 2 -; ret - | const 16 6; set 0 16; const 20 7; set 1 20; ret - | out 16; out 20; get 17 0; out 17; get 17 1; out 17; ret -", want: "out=0 out=0 out=0 out=0 exit=0"},
	{graphs: "in 16; branch 16 end; const 17 5; set 1 17; call 0 -; out 17; get 18 1; out 18; ret -; end: out 17; out 18; get 18 1; out 18; ret -", tape: []uint64{1, 0}, want: "in=1 in=0 out=0 out=0 out=0 out=5 out=5 exit=0"},
	{graphs: "call 1 -; ret - | defer 2; fail 3 | recover 1 2; out 16; get 17 0; out 17; ret -", want: "out=0 out=0 exit=0"},
	// Nobody writes another frame's.
	{graphs: "const 16 1; const 23 2; set 0 16; set 3 23; call 1 -; out 16; out 23; get 17 0; out 17; get 17 3; out 17; ret - | const 16 5; const 23 6; set 0 16; set 3 23; get 17 0; out 17; get 17 3; out 17; ret -", want: "out=5 out=6 out=1 out=2 out=1 out=2 exit=0"},
	{graphs: "const 1 1; const 12 2; call 1 -; out 1; out 12; ret - | const 1 5; const 12 6; ret -", want: "out=1 out=2 exit=0", in: free},
	{graphs: "const 16 1; set 2 16; defer 1; call 2 -; out 16; get 17 2; out 17; ret - | const 16 5; set 2 16; out 16; ret - | const 16 6; set 2 16; ret -", want: "out=1 out=1 out=5 exit=0"},
	// Cells are no places, places no cells.
	{graphs: "graph cells=24; const 1 5; const 17 6; get 2 1; out 2; get 2 17; out 2; const 2 7; set 1 2; set 17 2; out 1; out 17; ret -", want: "out=0 out=0 out=5 out=6 exit=0"},
	{graphs: "graph cells=1 places=18; const 16 5; const 17 6; const 1 7; set 0 1; out 16; out 17; get 2 0; out 2; ret -", want: "out=5 out=6 out=7 exit=0"},
}

func TestP8_1Zeros(t *testing.T) {
	check(t, zeroExamples...)
}

// TestP8_1AllPlaces: each place and each cell keeps what is written to it.
func TestP8_1AllPlaces(t *testing.T) {
	var b strings.Builder
	b.WriteString("graph places=1024 cells=64; ")
	want := ""
	for i := range 1024 {
		n := strconv.Itoa(i)
		b.WriteString("const " + n + " " + strconv.Itoa(5000+i) + "; ")
		if i < 64 {
			b.WriteString("set " + n + " " + n + "; ")
		}
	}
	for i := range 1024 {
		b.WriteString("out " + strconv.Itoa(i) + "; ")
		want += "out=" + strconv.Itoa(5000+i) + " "
	}
	for i := range 64 {
		b.WriteString("get 70 " + strconv.Itoa(i) + "; out 70; ")
		want += "out=" + strconv.Itoa(5000+i) + " "
	}
	check(t, example{graphs: b.String() + "ret -", want: want + "exit=0"})
}

// initExamples: parameters that are written to cells.
var initExamples = []example{
	{graphs: "const 0 5; const 1 6; call 1 - 0 1; ret - | graph params=0,1; get 2 0; out 2; get 2 1; out 2; get 2 3; out 2; ret -", want: "out=0 out=0 out=0 exit=0"},
	{graphs: "const 0 5; const 1 6; call 1 - 0 1; ret - | graph params=0,1 init=0,1; get 2 0; out 2; get 2 1; out 2; out 0; out 1; ret -", want: "out=5 out=6 out=5 out=6 exit=0"},
	{graphs: "const 0 5; const 1 6; call 1 - 0 1; ret - | graph params=0,1 init=1,0; get 2 0; out 2; get 2 1; out 2; out 0; out 1; ret -", want: "out=6 out=5 out=5 out=6 exit=0"},
	{graphs: "const 0 5; const 1 6; call 1 - 0 1; ret - | graph params=0,1 init=-,3; get 2 0; out 2; get 2 3; out 2; ret -", want: "out=0 out=6 exit=0"},
	{graphs: "const 0 5; const 1 6; call 1 - 0 1; ret - | graph params=0,1 init=2,-; get 2 2; out 2; get 2 0; out 2; get 2 1; out 2; ret -", want: "out=5 out=0 out=0 exit=0"},
	// One cell for several: the last one counts.
	{graphs: "const 0 5; const 1 6; const 2 7; call 1 - 0 1 2; ret - | graph params=0,1,2 init=1,1,1; get 3 1; out 3; get 3 0; out 3; out 0; out 1; out 2; ret -", want: "out=7 out=0 out=5 out=6 out=7 exit=0"},
	{graphs: "const 0 5; const 1 6; const 2 7; call 1 - 0 1 2; ret - | graph params=0,1,2 init=1,1,-; get 3 1; out 3; ret -", want: "out=6 exit=0"},
	{graphs: "const 0 5; const 1 6; const 2 7; call 1 - 0 1 2; ret - | graph params=0,1,2 init=1,0,1; get 3 1; out 3; get 3 0; out 3; ret -", want: "out=7 out=6 exit=0"},
	{graphs: "const 0 5; const 1 0; call 1 - 0 1; ret - | graph params=0,1 init=2,2; get 3 2; out 3; ret -", want: "out=0 exit=0"},
	{graphs: "const 0 5; const 1 6; const 2 7; const 3 8; call 1 - 0 1 2 3; ret - | graph params=0,1,2,3 init=0,0,3,3; get 4 0; out 4; get 4 3; out 4; get 4 1; out 4; get 4 2; out 4; ret -", want: "out=6 out=8 out=0 out=0 exit=0"},
	// The last one of the parameters, not of the places.
	{graphs: "const 0 5; const 1 6; call 1 - 0 1; ret - | graph params=1,0 init=2,2; get 3 2; out 3; ret -", want: "out=6 exit=0", in: free},
	{graphs: "const 0 5; const 1 6; const 2 7; call 1 - 0 1 2; ret - | graph params=9,20,4 init=0,-,1; get 3 0; out 3; get 3 1; out 3; out 9; out 20; out 4; ret -", want: "out=5 out=7 out=5 out=6 out=7 exit=0", in: free},
	// The place and the cell are two from there on.
	{graphs: "const 0 5; call 1 - 0; ret - | graph params=0 init=0; const 0 8; get 2 0; out 2; const 3 9; set 0 3; out 0; get 2 0; out 2; ret -", want: "out=5 out=8 out=9 exit=0"},
	// In each frame again, in deferred ones, too.
	{graphs: "const 0 5; call 1 - 0; const 0 6; call 1 - 0; ret - | graph params=0 init=3; get 2 3; out 2; const 2 77; set 3 2; ret -", want: "out=5 out=6 exit=0"},
	{graphs: "const 0 5; defer 1 0; const 0 6; defer 1 0; const 0 7; ret - | graph params=0 init=3; get 2 3; out 2; const 2 77; set 3 2; ret -", want: "out=6 out=5 exit=0"},
	{graphs: "const 0 5; const 1 6; defer 1 0 1; const 0 7; fail 2 | graph params=0,1 init=1,3; get 2 1; out 2; get 2 3; out 2; ret -", want: "out=5 out=6 panic=2"},
	{graphs: "const 0 5; const 1 6; defer 1 0 1; const 0 7; const 1 8; ret - | graph params=0,1 init=2,2; get 2 2; out 2; get 2 0; out 2; ret -", want: "out=6 out=0 exit=0"},
	// And it can be pointed to, or kept.
	{graphs: "const 0 5; call 1 - 0; ret - | graph params=0 init=2 ptrs=20; addr 20 2; load 3 20; out 3; const 3 6; store 20 3; get 4 2; out 4; out 0; ret -", want: "out=5 out=6 out=5 exit=0"},
	{graphs: "const 0 5; call 1 0 0; out 0; ret - | graph params=0 init=1 keep=1 result; defer 2; fail 3 | recover 1 2; ret -", want: "out=5 exit=0"},
	// Read bound, kinds are not held against Init: a pointer is laid there.
	{graphs: "const 16 8; set 1 16; addr 0 1; call 1 - 0; get 1 1; out 1; ret - | graph params=0 init=0; get 2 0; load 3 2; out 3; const 3 9; store 2 3; ret -", want: "out=8 out=9 exit=0", in: bound},
}

func TestP8_1Init(t *testing.T) {
	check(t, initExamples...)
}

// pointerExamples: what pointers refer to.
var pointerExamples = []example{
	// Cells of the frame below, and of one further down, past frames with cells of their own.
	{graphs: "graph ptrs=0; const 16 4; set 0 16; addr 0 0; call 1 - 0; get 16 0; exit 16 | graph params=0 ptrs=0; load 16 0; const 17 10; add 16 16 17; store 0 16; ret -", want: "exit=14"},
	{graphs: "graph ptrs=0; const 16 1; set 0 16; const 16 2; set 1 16; const 16 3; set 2 16; addr 0 1; call 1 - 0; get 16 0; out 16; get 16 1; out 16; get 16 2; out 16; ret - | graph params=0 ptrs=0; const 16 20; set 1 16; call 2 - 0; get 16 1; out 16; ret - | graph params=0 ptrs=0; const 16 30; set 1 16; const 16 40; set 2 16; call 3 - 0; get 16 1; out 16; get 16 2; out 16; ret - | graph params=0 ptrs=0; load 16 0; out 16; const 16 9; store 0 16; ret -",
		want: "out=2 out=30 out=40 out=20 out=1 out=9 out=3 exit=0"},
	{graphs: "graph ptrs=0,1; addr 0 0; addr 1 1; call 1 - 0 1; get 16 0; out 16; get 16 1; out 16; ret - | graph params=0,1 ptrs=0,1,16; move 16 0; move 0 1; move 1 16; call 2 - 0 1; ret - | graph params=0,1 ptrs=0,1; const 16 3; store 0 16; const 16 4; store 1 16; ret -", want: "out=4 out=3 exit=0"},
	{graphs: "graph ptrs=0; addr 0 0; call 1 - 0; get 16 0; out 16; ret - | graph params=0 ptrs=0,1; const 16 5; set 0 16; addr 1 0; call 2 - 0 1; get 16 0; out 16; ret - | graph params=0,1 ptrs=0,1; load 16 1; store 0 16; const 16 6; store 1 16; ret -", want: "out=6 out=5 exit=0"},
	// A pointer is kept over a call in a frame's own place.
	{graphs: "graph ptrs=20; addr 20 1; call 1 -; const 16 3; store 20 16; get 17 1; out 17; get 17 2; out 17; ret - | graph ptrs=20; addr 20 2; const 16 9; store 20 16; ret -", want: "out=3 out=0 exit=0"},
	{graphs: "graph ptrs=9; addr 9 1; call 1 -; const 16 3; store 9 16; get 17 1; out 17; ret - | graph ptrs=9; addr 9 1; const 16 9; store 9 16; ret -", want: "out=3 exit=0"},
	// A cell of each frame of a graph that calls itself.
	{graphs: "graph ptrs=1; const 0 3; addr 1 0; call 1 - 0 1; get 16 0; out 16; ret - | graph params=0,1 ptrs=1,20; move 16 0; move 20 1; branch 0 end; const 2 1; sub 0 0 2; addr 1 2; call 1 - 0 1; get 17 2; add 17 17 16; store 20 17; ret -; end: const 17 100; store 20 17; ret -", want: "out=106 exit=0"},
	// Through deferred calls: the pointer is kept, what it refers to goes on.
	{graphs: "graph ptrs=0; const 16 1; set 0 16; addr 0 0; defer 1 0; const 16 2; set 0 16; ret - | graph params=0 ptrs=0; load 16 0; out 16; ret -", want: "out=2 exit=0"},
	{graphs: "graph ptrs=0; addr 0 0; defer 1 0; defer 2 0; const 16 8; set 0 16; ret - | graph params=0 ptrs=0; load 16 0; out 16; ret - | graph params=0 ptrs=0; load 16 0; const 17 1; add 16 16 17; store 0 16; ret -", want: "out=9 exit=0"},
	{graphs: "graph ptrs=0; addr 0 0; call 1 - 0; get 16 0; out 16; ret - | graph params=0 ptrs=0; defer 2 0; addr 0 0; defer 2 0; const 16 5; set 0 16; ret - | graph params=0 ptrs=0; load 16 0; out 16; const 16 7; store 0 16; ret -", want: "out=5 out=0 out=7 exit=0"},
	{graphs: "graph ptrs=0; addr 0 0; defer 1 0; fail 6 | graph params=0 ptrs=0; defer 2 0; ret - | graph params=0 ptrs=0; load 16 0; out 16; ret -", want: "out=0 panic=6"},
	{graphs: "graph ptrs=0; const 16 3; set 0 16; addr 0 0; call 1 - 0; get 16 0; out 16; ret - | graph params=0 ptrs=0; defer 2 0; fail 1 | graph params=0 ptrs=0; recover 1 2; const 16 44; store 0 16; ret -", want: "out=44 exit=0"},
	{graphs: "graph ptrs=0; addr 0 3; defer 1 0; call 2 - 0; ret - | graph params=0 ptrs=0; load 16 0; out 16; recover 1 2; out 1; ret - | graph params=0 ptrs=0; const 16 8; store 0 16; panic 16", want: "out=8 out=8 exit=0"},
	// The null pointer, in a parameter and behind a recover.
	{graphs: "graph ptrs=0; call 1 - 0; ret - | graph params=0 ptrs=0; load 16 0; ret -", want: byNull, numbers: numbers{2, 2, 0, 1}},
	{graphs: "graph ptrs=0; defer 1 0; ret - | graph params=0 ptrs=0; const 16 1; store 0 16; ret -", want: byNull},
	{graphs: "graph ptrs=20; defer 1; load 16 20; tell 3; ret - | recover 1 2; out 2; out 1; ret -", want: "out=1 out=18446744073709551614 exit=0", numbers: numbers{6, 2, 1, 1}},
	{graphs: "graph ptrs=20; defer 1; store 20 16; tell 3; ret - | recover 1 2; out 2; out 1; ret -", want: "out=1 out=18446744073709551614 exit=0"},
	{graphs: "graph ptrs=20; const 16 7; load 16 20; out 16; ret -", want: byNull, numbers: numbers{2, 1, 0, 1}},
	{graphs: "graph ptrs=20; const 16 7; set 0 16; const 17 9; store 20 17; tell 1; ret -", want: byNull, numbers: numbers{4, 1, 0, 1}},
	// All cells of a frame.
	{graphs: "graph cells=64 ptrs=1,2,3; addr 1 63; const 16 5; store 1 16; addr 2 0; const 16 6; store 2 16; addr 3 62; load 16 3; out 16; get 16 63; out 16; get 16 0; out 16; get 16 1; out 16; load 16 1; out 16; ret -", want: "out=0 out=5 out=6 out=0 out=5 exit=0"},
	{graphs: "graph cells=64 ptrs=0; const 16 4; set 63 16; addr 0 63; call 1 - 0; get 16 63; out 16; get 16 0; out 16; ret - | graph params=0 ptrs=0 cells=64; const 16 9; set 0 16; set 63 16; load 16 0; out 16; const 16 8; store 0 16; ret -", want: "out=4 out=8 out=0 exit=0"},
}

func TestP8_1Pointers(t *testing.T) {
	check(t, pointerExamples...)
}

// boundPointers: read bound, pointers come to be where there is no frame for
// them any more, and numbers are used as pointers.
var boundPointers = []example{
	// One place for the pointer and what is read by it or laid there.
	{graphs: "const 1 7; set 1 1; addr 2 1; load 2 2; out 2; ret -", want: "out=7 exit=0"},
	{graphs: "addr 2 1; store 2 2; get 3 1; const 4 6; store 3 4; get 5 1; out 5; ret -", want: "out=6 exit=0"},
	{graphs: "addr 2 1; store 2 2; load 3 2; load 4 3; load 4 4; const 5 8; store 4 5; load 3 3; out 3; ret -", want: "out=8 exit=0"},
	{graphs: "addr 16 1; set 0 16; const 17 5; set 1 17; get 18 0; load 19 18; out 19; ret -", want: "out=5 exit=0"},
	// A branch by a pointer continues with Next.
	{graphs: "addr 2 0; branch 2 no; tell 1; ret -; no: tell 2; ret -", want: "out=1 exit=0"},
	// A pointer to a cell of a frame that has ended, that a call answers.
	{graphs: "call 1 0; load 1 0; tell 1; ret - | graph result; addr 1 0; ret 1", want: byNull},
	{graphs: "call 1 0; store 0 1; tell 1; ret - | graph result; addr 1 0; ret 1", want: byNull},
	{graphs: "call 1 0; call 2 - 0; ret - | graph result; addr 1 0; ret 1 | graph params=0; const 16 5; set 0 16; load 16 0; out 16; ret -", want: byNull},
	{graphs: "call 1 0; call 2 - 0; ret - | graph result; addr 1 0; ret 1 | graph params=0; const 16 5; store 0 16; get 16 0; out 16; ret -", want: byNull},
	{graphs: "call 1 0; move 6 0; call 1 0; load 1 6; tell 1; ret - | graph result; addr 1 0; ret 1", want: byNull},
	{graphs: "const 16 5; set 0 16; set 1 16; call 1 0; load 1 0; out 1; ret - | graph result; addr 1 1; ret 1", want: byNull},
	// A deferred call finds it in a register.
	{graphs: "defer 2; defer 1; ret - | addr 3 0; const 4 7; store 3 4; ret - | load 5 3; out 5; ret -", want: byNull},
	{graphs: "defer 2; defer 1; ret - | addr 3 0; const 4 7; store 3 4; ret - | const 5 6; store 3 5; ret -", want: byNull},
	{graphs: "defer 2; call 1 -; ret - | addr 3 0; fail 9 | recover 16 17; out 17; load 5 3; out 5; ret -", want: "out=1 " + byNull},
	{graphs: "defer 2; defer 1; fail 9 | addr 3 0; defer 3; ret - | load 5 3; out 5; ret - | const 6 4; store 3 6; load 6 3; out 6; ret -", want: "out=4 " + byNull},
	{graphs: "call 1 0; load 5 0; ret - | graph result keep=1; addr 2 0; set 1 2; defer 2; fail 3 | recover 1 2; ret -", want: byNull},
	// A frame's own pointer is found there, as long as it is on the stack.
	{graphs: "const 16 5; set 2 16; addr 3 2; defer 1; ret - | load 4 3; out 4; ret -", want: "out=5 exit=0"},
	{graphs: "const 16 5; set 2 16; addr 3 2; defer 1; defer 1; fail 6 | load 4 3; out 4; const 4 8; store 3 4; ret -", want: "out=5 out=8 panic=6"},
	{graphs: "addr 7 2; const 16 5; set 2 16; call 1 -; get 16 2; out 16; ret - | load 3 7; out 3; const 3 8; store 7 3; ret -", want: "out=5 out=8 exit=0"},
	{graphs: "addr 7 2; call 1 -; get 16 2; out 16; load 3 7; out 3; ret - | addr 7 2; const 3 8; store 7 3; get 16 2; out 16; ret -", want: "out=8 out=0 out=0 exit=0"},
	// A register that a call has not kept holds no pointer.
	{graphs: "addr 3 0; call 1 -; load 4 3; tell 1; ret - | ret -", want: byNull},
	{graphs: "addr 3 0; call 1 -; store 3 4; tell 1; ret - | ret -", want: byNull},
	{graphs: "addr 0 0; call 1 - 0; load 4 0; tell 1; ret - | graph params=0; ret -", want: byNull},
}

func TestP8_1BoundPointers(t *testing.T) {
	for _, x := range boundPointers {
		x.in = bound
		check(t, x)
	}
}

// TestP8_1NoPointers: words that no NAddr has made.
func TestP8_1NoPointers(t *testing.T) {
	list := []uint64{0, 1<<31 - 1, 1<<32 - 1, 1 << 32, 1<<32 + 1, 1 << 40, 1<<63 - 1, 1 << 63, api.Poison, math.MaxUint64, math.MaxUint64 - 1}
	for n := range uint64(70) {
		list = append(list, n, n*8, n*64, n<<16, 1<<32-n-1, -n)
	}
	r := rand.New(rand.NewSource(8))
	for range 200 {
		list = append(list, r.Uint64()>>r.Intn(64))
	}
	for _, v := range list {
		n := strconv.FormatUint(v, 10)
		for _, by := range []string{"load 2 1", "store 1 2", "load 1 1", "store 1 1"} {
			check(t,
				example{graphs: "const 1 " + n + "; " + by + "; tell 1; ret -", want: byNull, in: bound},
				example{graphs: "graph cells=64; addr 3 0; addr 4 63; call 1 -; ret - | graph cells=64; addr 3 0; const 1 " + n + "; " + by + "; tell 1; ret -", want: byNull, in: bound})
		}
	}
}

// TestP8_1PointersAsWords: that a pointer is not 0, and not less than 2^32.
func TestP8_1PointersAsWords(t *testing.T) {
	for _, cell := range []string{"0", "1", "31", "63"} {
		tests := "addr 1 " + cell + "; const 2 4294967296; below 3 1 2; out 3; const 2 0; eq 3 1 2; out 3; const 2 32; shr 3 1 2; eq 3 3 4; out 3; branch 1 no; tell 1; no: nop; "
		want := "out=0 out=0 out=0 out=1 "
		head := "graph cells=64; const 4 0; " + tests
		check(t,
			example{graphs: head + "ret -", want: want + "exit=0", in: bound},
			example{graphs: head + "call 1 -; ret - | " + head + "call 2 -; ret - | " + head + "ret -", want: want + want + want + "exit=0", in: bound},
			example{graphs: head + "defer 1; ret - | " + head + "defer 2; fail 7 | " + head + "ret -", want: want + want + want + "panic=7", in: bound})
	}
	// Of many frames, one after the other and one above the other.
	for _, s := range []string{"const 16 400; top: call 1 -; const 17 1; sub 16 16 17; branch 16 end; jump top; end: ret - | graph cells=64; addr 1 0; const 2 4294967296; below 3 1 2; branch 3 good; tell 1; good: ret -",
		"const 0 400; call 1 - 0; ret - | graph params=0 cells=64; addr 1 63; const 2 4294967296; below 3 1 2; branch 3 good; tell 1; good: branch 0 end; const 1 1; sub 0 0 1; call 1 - 0; end: ret -"} {
		g := program(t, s)
		if got := told(run(t, g, true, nil, 100000)); !strings.HasPrefix(got, "exit=0 ") {
			t.Errorf("%q: %s", s, got)
		}
	}
}

// TestP8_1NumbersOfPointers: nothing is promised about the numbers, but that
// the run ends.
func TestP8_1NumbersOfPointers(t *testing.T) {
	for _, s := range []string{
		"addr 1 0; out 1; exit 1",
		"addr 1 0; panic 1",
		"addr 1 0; const 2 1; add 1 1 2; load 3 1; out 3; store 1 3; ret -",
		"addr 1 3; const 2 1; top: add 1 1 2; store 1 2; jump top",
		"addr 1 0; sub 1 2 1; load 3 1; ret -",
		"addr 1 0; addr 2 3; mul 3 1 2; xor 4 1 2; div 5 1 2; load 6 4; ret -",
		"graph cells=1; addr 7 0; const 8 1; add 7 7 8; load 2 7; out 2; ret -",
		"graph cells=1; addr 7 0; const 8 1; add 7 7 8; store 7 8; ret -",
	} {
		g := program(t, s)
		for _, fuel := range []int{0, 1, 5, plenty} {
			r := run(t, g, true, nil, fuel)
			out := r.End == api.End{Kind: api.NoFuel} && r.Steps == fuel
			if r.Steps > fuel || !out && !trace.Ended(r.End) {
				t.Errorf("%q with fuel %d: %s", s, fuel, told(r))
			}
		}
	}
}

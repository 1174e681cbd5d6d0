package irun_test

import (
	"math"
	"slices"
	"strconv"
	"strings"
	"testing"

	"windlass/api"
	"windlass/ir"
	"windlass/irun"
	"windlass/samples"
	"windlass/trace"
	"windlass/word"
)

// example is a program of graphs (samples.Graphs), and what is to come of it.
type example struct {
	graphs  string
	tape    []uint64
	want    string  // as layer 2 prints it
	numbers numbers // the zero value: they are not held against the result
	in      ways
}

// ways in which an example is read.
type ways int

const (
	both ways = iota
	free
	bound
)

// numbers are the steps, and the greatest numbers at one time.
type numbers struct{ steps, depth, defers, panics int }

const (
	byZero = "panic=18446744073709551615"
	byNull = "panic=18446744073709551614"
	poison = "6510615555426900570"
	plenty = 3000
)

func (w ways) list() []bool {
	switch w {
	case free:
		return []bool{false}
	case bound:
		return []bool{true}
	}
	return []bool{false, true}
}

func wayOf(bound bool) string {
	if bound {
		return "read bound"
	}
	return "read free"
}

func run(t testing.TB, g api.Graphs, bound bool, tape []uint64, fuel int) api.Result {
	t.Helper()
	r, e := irun.Run(g, bound, tape, fuel)
	if e != api.OK {
		t.Fatalf("%s, with fuel %d, Run returns %d for %v", wayOf(bound), fuel, int(e), g)
	}
	return r
}

func sameResult(a, b api.Result) bool {
	return slices.Equal(a.Events, b.Events) && a.End == b.End && numbersOf(a) == numbersOf(b)
}

func numbersOf(r api.Result) numbers {
	return numbers{r.Steps, r.Depth, r.Defers, r.Panics}
}

func told(r api.Result) string {
	n := numbersOf(r)
	s := trace.Print(r.Events, r.End)
	for _, v := range []int{n.steps, n.depth, n.defers, n.panics} {
		s += " " + strconv.Itoa(v)
	}
	return s
}

// check holds examples against Run, and the second reading against Run.
func check(t *testing.T, list ...example) {
	t.Helper()
	for _, x := range list {
		g := program(t, x.graphs)
		for _, bound := range x.in.list() {
			checkOne(t, x, g, bound)
		}
	}
}

func checkOne(t *testing.T, x example, g api.Graphs, bound bool) {
	t.Helper()
	if e := ir.Check(g, bound); e != api.OK {
		t.Errorf("%q is not valid, %s", x.graphs, wayOf(bound))
		return
	}
	r := run(t, g, bound, x.tape, plenty)
	if got := trace.Print(r.Events, r.End); got != x.want {
		t.Errorf("%q, %s: %s; want %s", x.graphs, wayOf(bound), got, x.want)
	}
	if got := numbersOf(r); x.numbers != (numbers{}) && got != x.numbers {
		t.Errorf("%q, %s: steps and greatest numbers are %v; want %v", x.graphs, wayOf(bound), got, x.numbers)
	}
	s, sure := reading(g, bound, x.tape, plenty)
	if sure && !sameResult(r, s) {
		t.Errorf("%q, %s: Run says %s; the second reading says %s", x.graphs, wayOf(bound), told(r), told(s))
	}
}

var chapterExamples = []example{
	{graphs: "const 0 7; out 0; ret -", want: "out=7 exit=0", numbers: numbers{3, 1, 0, 0}},
	{graphs: "graph places=1; const 0 7; out 0; ret -", want: "out=7 exit=0", in: free},
	{graphs: "const 1 5; div 2 1 0; out 2; ret -", want: byZero, numbers: numbers{2, 1, 0, 1}},
	{graphs: "call 1 -; out 3; ret - | ret -", want: "out=" + poison + " exit=0", numbers: numbers{4, 2, 0, 0}, in: bound},
}

func TestP8_1Examples(t *testing.T) {
	check(t, chapterExamples...)
}

// where the places of the operations' examples are: a to e are numbers, p to r
// pointers. Some of them are registers when they are read bound.
var where = []map[string]string{
	{"a": "0", "b": "1", "c": "2", "d": "3", "e": "4", "p": "5", "q": "6", "r": "7"},
	{"a": "16", "b": "17", "c": "18", "d": "19", "e": "20", "p": "21", "q": "22", "r": "23"},
	{"a": "14", "b": "16", "c": "9", "d": "23", "e": "1", "p": "0", "q": "17", "r": "10"},
	{"a": "22", "b": "11", "c": "12", "d": "5", "e": "18", "p": "20", "q": "6", "r": "13"},
}

// placed is a text whose letters are replaced by places.
func placed(text string, at map[string]string) string {
	var items []string
	for item := range strings.SplitSeq(text, ";") {
		words := strings.Fields(item)
		for i, w := range words {
			if p, ok := at[w]; ok {
				words[i] = p
			}
		}
		items = append(items, strings.Join(words, " "))
	}
	return strings.Join(items, "; ")
}

// Operations of one frame. Beside what an operation writes, it leaves all as it
// was: the places that it does not write are told, too.
var operations = []struct{ nodes, want string }{
	{"const a 7; out a; out b; ret -", "out=7 out=0 exit=0"},
	{"const a 18446744073709551615; out a; const a 0; out a; ret -", "out=18446744073709551615 out=0 exit=0"},
	{"const a 1; const b 2; const c 3; const b 4; out a; out b; out c; out d; ret -", "out=1 out=4 out=3 out=0 exit=0"},
	{"const a 7; const b 8; move b a; out a; out b; const a 9; out b; ret -", "out=7 out=7 out=7 exit=0"},
	{"const a 7; const b 8; move c b; move a c; out a; out b; out c; out d; ret -", "out=8 out=8 out=8 out=0 exit=0"},
	{"const a 7; move b a; move c b; move d c; move e d; move a e; out a; out e; ret -", "out=7 out=7 exit=0"},
	{"const a 7; move a a; out a; ret -", "out=7 exit=0"},
	{"const a 7; const b 2; add c a b; out a; out b; out c; ret -", "out=7 out=2 out=9 exit=0"},
	{"const a 7; const b 2; sub c a b; out c; sub c b a; out c; ret -", "out=5 out=18446744073709551611 exit=0"},
	{"const a 7; const b 2; mul c a b; out c; ret -", "out=14 exit=0"},
	{"const a 7; const b 2; div c a b; out c; div c b a; out c; ret -", "out=3 out=0 exit=0"},
	{"const a 7; const b 2; rem c a b; out c; rem c b a; out c; ret -", "out=1 out=2 exit=0"},
	{"const a 7; const b 2; and c a b; out c; ret -", "out=2 exit=0"},
	{"const a 5; const b 3; or c a b; out c; ret -", "out=7 exit=0"},
	{"const a 7; const b 2; xor c a b; out c; ret -", "out=5 exit=0"},
	{"const a 7; const b 2; shl c a b; out c; shl c b a; out c; ret -", "out=28 out=256 exit=0"},
	{"const a 7; const b 2; shr c a b; out c; ret -", "out=1 exit=0"},
	{"const a 18446744073709551608; const b 2; sar c a b; out c; ret -", "out=18446744073709551614 exit=0"},
	{"const a 7; const b 2; eq c a b; out c; eq c a a; out c; ret -", "out=0 out=1 exit=0"},
	{"const a 18446744073709551615; const b 2; lt c a b; out c; lt c b a; out c; ret -", "out=1 out=0 exit=0"},
	{"const a 18446744073709551615; const b 2; below c a b; out c; below c b a; out c; ret -", "out=0 out=1 exit=0"},
	// Places that are one for what is read and what is written.
	{"const a 7; const b 2; sub a a b; out a; out b; ret -", "out=5 out=2 exit=0"},
	{"const a 7; const b 2; sub b a b; out a; out b; ret -", "out=7 out=5 exit=0"},
	{"const a 7; const b 2; sub b a a; out a; out b; ret -", "out=7 out=0 exit=0"},
	{"const a 7; add a a a; out a; mul a a a; out a; ret -", "out=14 out=196 exit=0"},
	{"const a 7; div a a a; out a; shl a a a; out a; eq a a a; out a; ret -", "out=1 out=2 out=1 exit=0"},
	// Cells.
	{"const a 7; set 1 a; const a 8; get b 1; out a; out b; get c 0; out c; get c 2; out c; get c 3; out c; ret -", "out=8 out=7 out=0 out=0 out=0 exit=0"},
	{"const a 7; set 0 a; set 3 a; const a 8; set 3 a; get b 3; get c 0; get d 1; out a; out b; out c; out d; ret -", "out=8 out=8 out=7 out=0 exit=0"},
	{"const a 7; set 2 a; get a 1; out a; get a 2; out a; set 1 a; set 2 b; get a 2; get b 1; out a; out b; ret -", "out=0 out=7 out=0 out=7 exit=0"},
	// Pointers to cells of the frame.
	{"const a 7; set 1 a; addr p 1; load b p; out b; const a 8; store p a; get c 1; out c; out a; out b; ret -", "out=7 out=8 out=8 out=7 exit=0"},
	{"addr p 0; addr q 2; const a 3; const b 4; store p a; store q b; get c 0; out c; get c 1; out c; get c 2; out c; ret -", "out=3 out=0 out=4 exit=0"},
	{"addr p 1; move q p; const a 5; store q a; load b p; out b; addr p 2; load b p; out b; load b q; out b; ret -", "out=5 out=0 out=5 exit=0"},
	{"addr p 3; addr p 1; move q p; move r q; move p r; const a 6; store p a; get a 1; get b 3; out a; out b; ret -", "out=6 out=0 exit=0"},
	{"addr p 1; addr q 1; const a 5; store p a; load b q; out b; const a 6; set 1 a; load b p; out b; load b q; out b; ret -", "out=5 out=6 out=6 exit=0"},
	{"load a p; out a; ret -", byNull},
	{"store p a; tell 1; ret -", byNull},
	{"addr p 1; move p q; load a p; out a; ret -", byNull},
	{"addr p 1; move p q; const a 1; store p a; tell 1; ret -", byNull},
	// Branches.
	{"branch a no; tell 1; ret -; no: tell 2; ret -", "out=2 exit=0"},
	{"const a 1; branch a no; tell 1; ret -; no: tell 2; ret -", "out=1 exit=0"},
	{"const b 1; branch a no; tell 1; ret -; no: tell 2; ret -", "out=2 exit=0"},
	{"const a 4294967296; branch a no; out a; ret -; no: tell 2; ret -", "out=4294967296 exit=0"},
	{"const a 9223372036854775808; branch a no; out a; ret -; no: tell 2; ret -", "out=9223372036854775808 exit=0"},
	{"const a 18446744073709551615; branch a no; tell 1; ret -; no: tell 2; ret -", "out=1 exit=0"},
	{"const a 3; const b 1; top: branch a done; out a; sub a a b; jump top; done: out a; ret -", "out=3 out=2 out=1 out=0 exit=0"},
	{"branch a one; one: tell 1; const a 1; branch a two; two: tell 2; ret -", "out=1 out=2 exit=0"},
	{"nop; tell 1; nop; nop; jump over; tell 2; over: nop; tell 3; ret -", "out=1 out=3 exit=0"},
	// What is read, told, and ends the run.
	{"in a; in b; in c; out b; out a; out c; in a; out a; ret -", "in=5 in=6 in=0 out=6 out=5 out=0 in=0 out=0 exit=0"},
	{"in a; exit a", "in=5 exit=5"},
	{"const a 18446744073709551615; exit a", "exit=18446744073709551615"},
	{"exit a", "exit=0"},
	{"in b; panic b", "in=5 panic=5"},
	{"panic a", "panic=0"},
	{"const a 1; const b 2; recover a b; out a; out b; recover c d; out c; out d; ret -", "out=0 out=0 out=0 out=0 exit=0"},
	// Panics of the operations leave what they would write.
	{"const a 7; div c a b; out c; ret -", byZero},
	{"const a 7; rem c a b; out c; ret -", byZero},
	{"div a a a; out a; ret -", byZero},
	{"const a 9223372036854775808; const b 18446744073709551615; div c a b; out c; rem c a b; out c; ret -", "out=9223372036854775808 out=0 exit=0"},
}

func TestP8_1Operations(t *testing.T) {
	for _, x := range operations {
		for _, at := range where {
			head := "graph ptrs=" + at["p"] + "," + at["q"] + "," + at["r"] + "; "
			check(t, example{graphs: head + placed(x.nodes, at), tape: []uint64{5, 6}, want: x.want})
		}
	}
}

// words at which the operations change what they do.
var words = []uint64{0, 1, 2, 3, 7, 8, 62, 63, 64, 65, 1<<63 - 1, 1 << 63, 1<<63 + 1, math.MaxUint64 - 1, math.MaxUint64}

func TestP8_1Reckoning(t *testing.T) {
	for n, name := range samples.Binary() {
		op := api.Add + api.Op(n)
		g := program(t, "in 1; in 17; "+name+" 18 1 17; out 18; out 1; out 17; ret -")
		for _, a := range words {
			for _, b := range words {
				checkReckoned(t, name, g, op, a, b)
			}
		}
	}
}

func checkReckoned(t *testing.T, name string, g api.Graphs, op api.Op, a, b uint64) {
	t.Helper()
	want := []api.Event{{Kind: api.Asked, Value: a}, {Kind: api.Asked, Value: b}}
	end := api.End{Kind: api.Exited}
	if v, e := word.Do(op, a, b); e == api.OK {
		for _, x := range []uint64{v, a, b} {
			want = append(want, api.Event{Kind: api.Wrote, Value: x})
		}
	} else {
		end = api.End{Kind: api.Uncaught, Value: 1<<64 - 1}
	}
	if by0 := b == 0 && (op == api.Div || op == api.Rem); by0 != (end.Kind == api.Uncaught) {
		t.Errorf("%s of %d and %d: a panic is wanted: %v", name, a, b, end)
	}
	for _, bound := range []bool{false, true} {
		if r := run(t, g, bound, []uint64{a, b}, plenty); !slices.Equal(r.Events, want) || r.End != end {
			t.Errorf("%s of %d and %d, %s: %v %v; want %v %v", name, a, b, wayOf(bound), r.Events, r.End, want, end)
		}
	}
}

// nodeExamples: calls, ends, and in which order nodes are executed.
var nodeExamples = []example{
	// A number that a call answers.
	{graphs: "call 1 0; out 0; ret - | graph result; const 5 9; ret 5", want: "out=9 exit=0", numbers: numbers{5, 2, 0, 0}},
	{graphs: "call 1 0; out 0; ret - | graph result; const 20 9; ret 20", want: "out=9 exit=0"},
	{graphs: "const 20 7; call 1 -; out 20; ret - | graph result; const 20 9; ret 20", want: "out=7 exit=0", numbers: numbers{6, 2, 0, 0}},
	{graphs: "const 20 7; call 1 -; out 20; ret - | const 20 9; ret -", want: "out=7 exit=0"},
	{graphs: "const 0 7; call 1 -; out 0; ret - | graph result; const 5 9; ret 5", want: "out=7 exit=0", in: free},
	{graphs: "const 0 7; call 1 -; out 0; ret - | graph result; const 5 9; ret 5", want: "out=9 exit=0", in: bound},
	{graphs: "call 1 20; out 20; out 0; ret - | graph result; const 0 9; ret 0", want: "out=9 out=0 exit=0", in: free},
	{graphs: "call 1 0; out 0; call 1 0; out 0; ret - | graph result; in 3; ret 3", tape: []uint64{4, 5}, want: "in=4 out=4 in=5 out=5 exit=0"},
	{graphs: "call 1 0; out 0; ret - | graph result; call 2 0; const 17 1; add 3 0 17; ret 3 | graph result; const 0 7; ret 0", want: "out=8 exit=0"},
	// Its place may be an argument's.
	{graphs: "const 5 7; call 1 5 5; out 5; ret - | graph params=2 result; add 2 2 2; ret 2", want: "out=14 exit=0", in: free},
	{graphs: "const 0 7; call 1 0 0; out 0; ret - | graph params=0 result; add 0 0 0; ret 0", want: "out=14 exit=0"},
	{graphs: "const 5 7; const 6 2; call 1 6 5 6; out 5; out 6; ret - | graph params=0,1 result; sub 5 0 1; ret 5", want: "out=7 out=5 exit=0", in: free},
	// Arguments, in their order; one place may be handed over twice.
	{graphs: "const 0 5; const 1 6; const 2 7; const 3 8; call 1 - 0 1 2 3; ret - | graph params=0,1,2,3; out 0; out 1; out 2; out 3; ret -", want: "out=5 out=6 out=7 out=8 exit=0", numbers: numbers{11, 2, 0, 0}},
	{graphs: "const 20 5; const 9 6; call 1 - 9 20; call 1 - 20 9; call 1 - 9 9; ret - | graph params=0,1; out 0; out 1; ret -", want: "out=6 out=5 out=5 out=6 out=6 out=6 exit=0", in: free},
	{graphs: "const 20 5; const 9 6; const 0 3; defer 1 9 20; defer 1 20 20; ret - | graph params=0,1; out 0; out 1; ret -", want: "out=5 out=5 out=6 out=5 exit=0", in: free},
	// Parameters in an order of their own.
	{graphs: "const 0 5; const 1 6; const 2 7; const 3 8; call 1 - 0 1 2 3; ret - | graph params=3,9,0,20; out 3; out 9; out 0; out 20; out 1; out 2; ret -", want: "out=5 out=6 out=7 out=8 out=0 out=0 exit=0", in: free},
	{graphs: "const 0 5; const 1 6; call 1 - 0 1; ret - | graph params=1,0; out 0; out 1; ret -", want: "out=6 out=5 exit=0", in: free},
	{graphs: "const 0 5; const 1 6; defer 1 0 1; ret - | graph params=1,0; out 0; out 1; ret -", want: "out=6 out=5 exit=0", in: free},
	{graphs: "graph ptrs=7; addr 7 2; const 4 9; call 1 - 4 7; get 8 2; out 8; ret - | graph params=3,1 ptrs=1; store 1 3; ret -", want: "out=9 exit=0", in: free},
	// The arguments are the frame's own.
	{graphs: "const 0 5; const 16 5; call 1 - 0; out 16; ret - | graph params=0; add 0 0 0; out 0; const 16 1; ret -", want: "out=10 out=5 exit=0"},
	{graphs: "const 3 5; call 1 - 3; out 3; ret - | graph params=3; add 3 3 3; out 3; ret -", want: "out=10 out=5 exit=0", in: free},
	// Nodes in any order, and an Entry that is not the first one.
	{graphs: "graph entry=here; tell 1; ret -; here: tell 2; ret -", want: "out=2 exit=0", numbers: numbers{3, 1, 0, 0}},
	{graphs: "graph entry=here; tell 1; here: tell 2; ret -", want: "out=2 exit=0"},
	{graphs: "graph entry=here; end: tell 1; ret -; two: tell 3; jump end; here: tell 2; jump two", want: "out=2 out=3 out=1 exit=0"},
	{graphs: "call 1 -; defer 1; defer 1; ret - | graph entry=here; tell 1; ret -; here: tell 2; ret -", want: "out=2 out=2 out=2 exit=0"},
	{graphs: "defer 1; fail 3 | graph entry=here; tell 1; ret -; here: tell 2; ret -", want: "out=2 panic=3"},
	{graphs: "graph entry=here; in 16; branch 16 end; here: call 0 -; end: tell 1; ret -", want: "fuel"},
	{graphs: "graph entry=here; here: in 16; branch 16 end; call 0 -; end: tell 1; ret -", tape: []uint64{1, 1}, want: "in=1 in=1 in=0 out=1 out=1 out=1 exit=0"},
	// Rings.
	{graphs: "top: nop; nop; jump top", want: "fuel", numbers: numbers{plenty, 1, 0, 0}},
	{graphs: "top: jump top", want: "fuel", numbers: numbers{plenty, 1, 0, 0}},
	{graphs: "top: branch 0 top; ret -", want: "fuel", numbers: numbers{plenty, 1, 0, 0}},
	// The main graph's end is the run's; a main graph that is called is called.
	{graphs: "ret -", want: "exit=0", numbers: numbers{1, 1, 0, 0}},
	{graphs: "graph keep=0; const 0 7; set 0 0; ret -", want: "exit=0"},
	{graphs: "in 16; branch 16 end; call 0 -; tell 2; ret -; end: tell 1; ret -", tape: []uint64{1, 1, 0}, want: "in=1 in=1 in=0 out=1 out=2 out=2 exit=0", numbers: numbers{17, 3, 0, 0}},
	{graphs: "in 16; branch 16 end; defer 0; tell 2; ret -; end: tell 1; ret -", tape: []uint64{1, 1, 0}, want: "in=1 out=2 in=1 out=2 in=0 out=1 exit=0", numbers: numbers{17, 3, 1, 0}},
	{graphs: "call 0 -; ret -", want: "fuel", numbers: numbers{plenty, plenty + 1, 0, 0}},
	// A graph that calls itself.
	{graphs: "const 0 4; call 1 0 0; out 0; ret - | graph params=0 result; move 16 0; branch 0 end; const 1 1; sub 0 0 1; call 1 0 0; add 0 0 16; ret 0; end: const 0 100; ret 0", want: "out=110 exit=0", numbers: numbers{36, 6, 0, 0}},
	// exit ends the run, wherever it is.
	{graphs: "call 1 -; tell 1; ret - | call 2 -; tell 2; ret - | quit 4", want: "exit=4", numbers: numbers{4, 3, 0, 0}},
	// The tape, over calls.
	{graphs: "in 1; call 1 -; in 1; out 1; ret - | in 2; out 2; ret -", tape: []uint64{1, 2, 3}, want: "in=1 in=2 out=2 in=3 out=3 exit=0"},
	{graphs: "defer 1; in 0; panic 0 | in 1; out 1; recover 2 3; out 3; out 2; in 1; out 1; ret -", tape: []uint64{7, 8}, want: "in=7 in=8 out=8 out=1 out=7 in=0 out=0 exit=0"},
	{graphs: "in 0; in 1; in 2; exit 2", tape: []uint64{math.MaxUint64, 9, 18}, want: "in=18446744073709551615 in=9 in=18 exit=18"},
}

func TestP8_1Nodes(t *testing.T) {
	check(t, nodeExamples...)
}

// TestP8_1OneEnd: a branch whose ends are one.
func TestP8_1OneEnd(t *testing.T) {
	for _, imm := range []uint64{0, 1} {
		g := api.Graphs{Funcs: []api.Graph{{Kinds: make([]api.Kind, 16), Keep: -1, Entry: 2, Nodes: []api.Node{
			{Op: api.NOut, A: 3, Next: 3}, {Op: api.NBranch, A: 3}, {Op: api.NConst, D: 3, Imm: imm, Next: 1}, {Op: api.NRet, A: -1},
		}}}}
		for _, bound := range []bool{false, true} {
			want := "out=" + strconv.FormatUint(imm, 10) + " exit=0 4 1 0 0"
			if got := told(run(t, g, bound, nil, plenty)); got != want {
				t.Errorf("with %d, %s: %s; want %s", imm, wayOf(bound), got, want)
			}
		}
	}
}

// TestP8_1UnusedFields: what a node does not use is not looked at, and may be
// anything.
func TestP8_1UnusedFields(t *testing.T) {
	for _, x := range append(slices.Clone(nodeExamples), framesExamples()...) {
		g := program(t, x.graphs)
		for i := range g.Funcs {
			for k := range g.Funcs[i].Nodes {
				spoilUnused(&g.Funcs[i].Nodes[k])
			}
		}
		for _, bound := range x.in.list() {
			checkOne(t, x, g, bound)
		}
	}
}

// spoilUnused fields of a node, by the chapter's table of layer 7.
func spoilUnused(n *api.Node) {
	uses := map[api.NodeOp]string{
		api.NConst: "D Imm Next", api.NMove: "D A Next", api.NBin: "By D A B Next", api.NCellGet: "D Cell Next",
		api.NCellSet: "Cell A Next", api.NAddr: "D Cell Next", api.NLoad: "D A Next", api.NStore: "A B Next",
		api.NBranch: "A Next Else", api.NNop: "Next", api.NCall: "F Args D Next", api.NRet: "A", api.NDefer: "F Args Next",
		api.NPanic: "A", api.NRecover: "D E Next", api.NIn: "D Next", api.NOut: "A Next", api.NExit: "A",
	}[n.Op]
	uses = " " + uses + " "
	for name, field := range map[string]*int{
		"D": &n.D, "E": &n.E, "A": &n.A, "B": &n.B, "F": &n.F, "Cell": &n.Cell, "Next": &n.Next, "Else": &n.Else,
	} {
		if !strings.Contains(uses, " "+name+" ") {
			*field = -77
		}
	}
	if !strings.Contains(uses, " By ") {
		n.By = api.Call
	}
	if !strings.Contains(uses, " Imm ") {
		n.Imm = 77
	}
	if !strings.Contains(uses, " Args ") {
		n.Args = []int{77, -77}
	}
}

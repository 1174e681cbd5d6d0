package sem_test

import (
	"math"
	"slices"
	"strconv"
	"strings"
	"testing"

	"windlass/api"
	"windlass/sem"
	"windlass/text"
	"windlass/trace"
	"windlass/word"
)

// example is a program, as lines of layer 4 that are separated by semicolons,
// and what is to come of it. The program is head and code; what is not given of
// the numbers is not held against the result.
type example struct {
	code    string
	tape    []uint64
	want    string  // as layer 2 prints it
	numbers numbers // the zero value: none
}

// numbers are the steps, and the greatest numbers at one time.
type numbers struct{ steps, depth, defers, panics int }

const (
	head   = "func 0 - 0 -; "
	byZero = "panic=18446744073709551615"
	byNull = "panic=18446744073709551614"
	plenty = 5000
)

// whole is the text of an example.
func (x example) whole() string {
	if strings.HasPrefix(x.code, "func") {
		return x.code
	}
	return head + x.code
}

// parse lines that are separated by semicolons. An instruction may have a name
// and a colon ahead of it; jump and zero of its function take the name.
func parse(t testing.TB, s string) api.Program {
	t.Helper()
	var lines []string
	for f := range strings.SplitSeq(s, "func") {
		lines = append(lines, withoutNames(f))
	}
	p, n, e := text.Parse(strings.Join(lines, "func"))
	if e != api.OK {
		t.Fatalf("%q: line %d is none", s, n)
	}
	return p
}

// withoutNames of the lines of one function, the first of which is its head.
func withoutNames(s string) string {
	lines := strings.Split(s, ";")
	lines = slices.DeleteFunc(lines, func(l string) bool { return strings.TrimSpace(l) == "" })
	var at []string
	for i, line := range lines {
		if name, rest, ok := strings.Cut(line, ":"); ok {
			lines[i] = rest
			at = append(at, " "+strings.TrimSpace(name), " "+strconv.Itoa(i-1))
		}
	}
	for i, line := range lines {
		for k := 0; k < len(at); k += 2 {
			if before, ok := strings.CutSuffix(strings.TrimRight(line, " "), at[k]); ok {
				lines[i] = before + at[k+1]
			}
		}
	}
	return strings.Join(lines, "\n") + "\n"
}

func run(t testing.TB, p api.Program, tape []uint64, fuel int) api.Result {
	t.Helper()
	r, e := sem.Run(p, tape, fuel)
	if e != api.OK {
		t.Fatalf("Run returns %d for %s with fuel %d", int(e), printed(p), fuel)
	}
	return r
}

func printed(p api.Program) string {
	s, _ := text.Print(p)
	return strings.ReplaceAll(s, "\n", "; ")
}

func sameResult(a, b api.Result) bool {
	return slices.Equal(a.Events, b.Events) && a.End == b.End && numbersOf(a) == numbersOf(b)
}

func numbersOf(r api.Result) numbers {
	return numbers{r.Steps, r.Depth, r.Defers, r.Panics}
}

func told(r api.Result) string {
	n := numbersOf(r)
	s := trace.Print(r.Events, r.End)
	for _, v := range []int{n.steps, n.depth, n.defers, n.panics} {
		s += " " + strconv.Itoa(v)
	}
	return s
}

// check holds examples against Run, and the second reading against Run.
func check(t *testing.T, list ...example) {
	t.Helper()
	for _, x := range list {
		p := parse(t, x.whole())
		r := run(t, p, x.tape, plenty)
		if got := trace.Print(r.Events, r.End); got != x.want {
			t.Errorf("%q: %s; want %s", x.code, got, x.want)
		}
		if got := numbersOf(r); x.numbers != (numbers{}) && got != x.numbers {
			t.Errorf("%q: steps and greatest numbers are %v; want %v", x.code, got, x.numbers)
		}
		if s := reading(p, x.tape, plenty); !sameResult(r, s) {
			t.Errorf("%q: Run says %s; the second reading says %s", x.code, told(r), told(s))
		}
	}
}

var chapterExamples = []example{
	{code: "const 7; out; ret", want: "out=7 exit=0", numbers: numbers{3, 1, 0, 0}},
	{code: "const 1; const 0; div; out; ret", want: byZero, numbers: numbers{3, 1, 0, 1}},
	{code: "defer 1; const 5; panic; " + head + "recover; drop; out; ret", want: "out=5 exit=0", numbers: numbers{7, 2, 1, 1}},
	{code: "defer 1; const 5; panic; " + head + "const 6; panic", want: "panic=6", numbers: numbers{5, 2, 1, 2}},
	// Those of DOC.md that are not among them.
	{code: "defer 1; const 5; panic; " + head + "call 2; ret; " + head + "recover; drop; drop; ret", want: "panic=5", numbers: numbers{9, 3, 1, 1}},
	{code: "call 1; out; ret; func 0 n 1 0; const 3; set 0; defer 2; const 9; panic; " + head + "recover; drop; drop; ret", want: "out=3 exit=0", numbers: numbers{12, 3, 1, 1}},
	{code: "const 1; const 0; div; out; ret", want: byZero},
}

func TestP6_1Examples(t *testing.T) {
	check(t, chapterExamples...)
}

// opExample is an operation with two numbers beneath all that it is given: what
// is told behind it, the top first, is to be these and the two.
type opExample struct {
	locals, before, op, want string
}

func (x opExample) example() example {
	want := strings.Fields(x.want)
	code := "func 0 " + x.locals + " 0 -; const 101; const 102; " + x.before + "; " + x.op
	code += strings.Repeat("; out", len(want)+2) + "; ret"
	s := ""
	for _, w := range append(want, "102", "101") {
		s += "out=" + w + " "
	}
	return example{code: code, want: s + "exit=0"}
}

// behind is what lies on the stack behind an operation.
var behind = []opExample{
	{"-", "", "const 0", "0"},
	{"-", "", "const 18446744073709551615", "18446744073709551615"},
	{"nn", "const 8; set 0; const 9; set 1", "get 0", "8"},
	{"nn", "const 8; set 0; const 9; set 1", "get 1", "9"},
	{"np", "const 8; set 0; addr 0; set 1; get 1", "load", "8"},
	{"nn", "const 8; const 9; const 10", "set 1", "9 8"},
	{"nn", "const 8; set 1; get 0; get 1", "set 0; get 0", "8 0"},
	{"nn", "const 8; set 0; const 9; set 1; addr 1", "load", "9"},
	{"nn", "const 8; set 0; const 9; set 1; addr 0", "load", "8"},
	{"nn", "const 3; addr 1; const 9", "store; get 1; get 0", "0 9 3"},
	{"-", "const 7; const 2", "add", "9"},
	{"-", "const 7; const 2", "sub", "5"},
	{"-", "const 7; const 2", "mul", "14"},
	{"-", "const 7; const 2", "div", "3"},
	{"-", "const 7; const 2", "rem", "1"},
	{"-", "const 7; const 2", "and", "2"},
	{"-", "const 5; const 3", "or", "7"},
	{"-", "const 7; const 2", "xor", "5"},
	{"-", "const 7; const 2", "shl", "28"},
	{"-", "const 7; const 2", "shr", "1"},
	{"-", "const 18446744073709551608; const 2", "sar", "18446744073709551614"},
	{"-", "const 7; const 7", "eq", "1"},
	{"-", "const 7; const 2", "eq", "0"},
	{"-", "const 18446744073709551615; const 2", "lt", "1"},
	{"-", "const 2; const 18446744073709551615", "lt", "0"},
	{"-", "const 18446744073709551615; const 2", "below", "0"},
	{"-", "const 2; const 18446744073709551615", "below", "1"},
	{"-", "const 7", "jump a; const 5; add; a: const 6", "6 7"},
	{"-", "const 7; const 0", "zero a; const 5; add; a: const 6", "6 7"},
	{"-", "const 7; const 2", "zero a; const 5; add; a: const 6", "6 12"},
	{"-", "const 7; const 18446744073709551615", "zero a; const 5; add; a: const 6", "6 12"},
	{"-", "const 7", "recover", "0 0 7"},
	{"-", "const 7; const 8", "drop", "7"},
	{"-", "const 7; const 8", "dup", "8 8 7"},
	{"np", "const 8; set 0; addr 0", "dup; load; set 0; load", "8"},
	{"np", "const 8; set 0; addr 0; addr 0", "const 9; store; load", "9"},
	{"np", "const 8; addr 0", "drop", "8"},
	{"np", "get 0; addr 0; set 1", "get 1; const 4; store; get 1; load", "4 0"},
}

// stepExamples: what single operations do.
var stepExamples = []example{
	{code: "const 101; in; in; out; out; out; ret", tape: []uint64{5, 6}, want: "in=5 in=6 out=6 out=5 out=101 exit=0"},
	{code: "const 101; const 102; out; const 103; out; out; ret", want: "out=102 out=103 out=101 exit=0"},
	{code: "const 101; const 102; exit", want: "exit=102", numbers: numbers{3, 1, 0, 0}},
	{code: "const 101; const 102; panic", want: "panic=102", numbers: numbers{3, 1, 0, 1}},
	{code: "const 18446744073709551615; exit", want: "exit=18446744073709551615"},
	{code: "const 0; panic", want: "panic=0"},
	{code: "const 18446744073709551615; panic", want: byZero},
	{code: "ret", want: "exit=0", numbers: numbers{1, 1, 0, 0}},
	{code: "jump 0", want: "fuel", numbers: numbers{plenty, 1, 0, 0}},
	{code: "const 0; zero 0; ret", want: "fuel"},
	{code: "jump a; ret; a: const 1; exit", want: "exit=1", numbers: numbers{3, 1, 0, 0}},
	// A call takes its arguments, and leaves what lies beneath.
	{code: "const 101; const 102; const 7; const 8; call 1; out; out; ret; func 2 nn 0 -; get 0; out; get 1; out; ret", want: "out=7 out=8 out=102 out=101 exit=0", numbers: numbers{13, 2, 0, 0}},
	{code: "const 101; const 102; const 7; const 8; call 1; out; out; out; ret; func 2 nn 1 -; get 0; get 1; sub; ret", want: "out=18446744073709551615 out=102 out=101 exit=0"},
	{code: "const 101; const 1; const 2; const 3; const 4; call 1; out; ret; func 4 nnnn 0 -; get 0; get 1; get 2; get 3; out; out; out; out; ret", want: "out=4 out=3 out=2 out=1 out=101 exit=0"},
	{code: "const 101; call 1; out; ret; " + head + "ret", want: "out=101 exit=0", numbers: numbers{5, 2, 0, 0}},
	{code: "const 101; call 1; out; out; ret; func 0 - 1 -; const 5; ret", want: "out=5 out=101 exit=0"},
	{code: "const 101; const 6; defer 1; out; ret; func 1 n 0 -; get 0; out; ret", want: "out=101 out=6 exit=0", numbers: numbers{8, 2, 1, 0}},
	// The arguments are the callee's own.
	{code: "func 0 n 0 -; const 7; set 0; get 0; call 1; get 0; out; ret; func 1 n 0 -; const 8; set 0; get 0; out; ret", want: "out=8 out=7 exit=0"},
	{code: "func 0 np 0 -; const 7; set 0; addr 0; call 1; get 1; load; out; ret; func 1 p 0 -; get 0; load; out; ret", want: "out=7 " + byNull},
	// Sixteen words on the stack.
	{code: strings.Repeat("const 3; ", 16) + strings.Repeat("add; ", 15) + "out; ret", want: "out=48 exit=0"},
	{code: strings.Repeat("const 3; ", 14) + "call 1; " + strings.Repeat("add; ", 14) + "out; ret; func 0 - 1 -; " + strings.Repeat("const 5; ", 16) + strings.Repeat("add; ", 15) + "ret", want: "out=122 exit=0"},
	// A function that calls itself.
	{code: "const 4; call 1; out; ret; func 1 n 1 -; get 0; zero a; get 0; get 0; const 1; sub; call 1; add; ret; a: const 100; ret", want: "out=110 exit=0", numbers: numbers{44, 6, 0, 0}},
}

func TestP6_1Operations(t *testing.T) {
	for _, x := range behind {
		check(t, x.example())
	}
	check(t, stepExamples...)
}

// pointerExamples: what pointers refer to.
var pointerExamples = []example{
	// Locals of the same frame.
	{code: "func 0 nn 0 -; const 5; set 1; addr 1; load; out; addr 0; const 6; store; get 0; out; get 1; out; ret", want: "out=5 out=6 out=5 exit=0"},
	{code: "func 0 nnnp 0 -; addr 0; set 3; addr 2; const 7; store; addr 0; const 5; store; addr 1; const 6; store; get 0; out; get 1; out; get 2; out; get 3; load; out; ret", want: "out=5 out=6 out=7 out=5 exit=0"},
	{code: "func 0 npp 0 -; addr 0; dup; set 1; set 2; get 1; const 4; store; get 2; load; out; get 2; const 5; store; get 1; load; get 0; sub; out; ret", want: "out=4 out=0 exit=0"},
	{code: "func 0 nnp 0 -; const 1; set 0; const 2; set 1; addr 0; set 2; get 2; load; out; addr 1; set 2; get 2; load; out; ret", want: "out=1 out=2 exit=0"},
	// Locals of the frame below, and of one further down, past frames with locals of their own.
	{code: "func 0 n 0 -; const 4; set 0; addr 0; call 1; get 0; exit; func 1 p 0 -; get 0; get 0; load; const 10; add; store; ret", want: "exit=14"},
	{code: "func 0 nnn 0 -; const 1; set 0; const 2; set 1; const 3; set 2; addr 1; call 1; get 0; out; get 1; out; get 2; out; ret; func 1 pn 0 -; const 20; set 1; get 0; call 2; get 1; out; ret; func 1 pnn 0 -; const 30; set 1; const 40; set 2; get 0; call 3; get 1; out; get 2; out; ret; func 1 p 0 -; get 0; load; out; get 0; const 9; store; ret", want: "out=2 out=30 out=40 out=20 out=1 out=9 out=3 exit=0"},
	{code: "func 0 nn 0 -; addr 0; addr 1; call 1; get 0; out; get 1; out; ret; func 2 pp 0 -; get 1; get 0; call 2; ret; func 2 pp 0 -; get 0; const 3; store; get 1; const 4; store; ret", want: "out=4 out=3 exit=0"},
	{code: "func 0 n 0 -; addr 0; call 1; get 0; out; ret; func 1 pn 0 -; const 5; set 1; get 0; addr 1; call 2; get 1; out; ret; func 2 pp 0 -; get 0; get 1; load; store; get 1; const 6; store; ret", want: "out=6 out=5 exit=0"},
	// A local of each frame of a function that calls itself.
	{code: "func 0 n 0 -; const 3; addr 0; call 1; get 0; out; ret; func 2 npn 0 -; get 0; zero a; get 0; const 1; sub; addr 2; call 1; get 1; get 2; get 0; add; store; ret; a: get 1; const 100; store; ret", want: "out=106 exit=0"},
	// Through deferred calls: the pointer is kept, what it refers to goes on.
	{code: "func 0 n 0 -; const 1; set 0; addr 0; defer 1; const 2; set 0; ret; func 1 p 0 -; get 0; load; out; ret", want: "out=2 exit=0"},
	{code: "func 0 n 0 -; addr 0; defer 1; addr 0; defer 2; const 8; set 0; ret; func 1 p 0 -; get 0; load; out; ret; func 1 p 0 -; get 0; get 0; load; const 1; add; store; ret", want: "out=9 exit=0"},
	{code: "func 0 n 0 -; addr 0; call 1; get 0; out; ret; func 1 pn 0 -; get 0; defer 2; addr 1; defer 2; const 5; set 1; ret; func 1 p 0 -; get 0; load; out; get 0; const 7; store; ret", want: "out=5 out=0 out=7 exit=0"},
	{code: "func 0 n 0 -; addr 0; defer 1; const 6; panic; func 1 p 0 -; get 0; defer 2; ret; func 1 p 0 -; get 0; load; out; ret", want: "out=0 panic=6"},
	{code: "func 0 n 0 -; const 3; set 0; addr 0; call 1; get 0; out; ret; func 1 p 0 -; get 0; defer 2; const 1; panic; func 1 p 0 -; recover; drop; drop; get 0; const 44; store; ret", want: "out=44 exit=0"},
	// The null pointer: a local's at first, and what it was stays behind.
	{code: "func 0 p 0 -; get 0; load; out; ret", want: byNull, numbers: numbers{2, 1, 0, 1}},
	{code: "func 0 p 0 -; get 0; const 5; store; const 1; out; ret", want: byNull, numbers: numbers{3, 1, 0, 1}},
	{code: "func 0 pp 0 -; get 0; set 1; get 1; load; drop; ret", want: byNull},
	{code: "func 0 p 0 -; get 0; call 1; ret; func 1 p 0 -; get 0; load; drop; ret", want: byNull, numbers: numbers{4, 2, 0, 1}},
	{code: "func 0 np 0 -; get 1; defer 1; ret; func 1 p 0 -; get 0; const 1; store; ret", want: byNull},
	{code: "func 0 np 0 -; addr 0; set 1; get 1; const 2; store; get 0; out; ret", want: "out=2 exit=0"},
	{code: "func 0 p 0 -; defer 1; get 0; load; drop; ret; " + head + "recover; out; out; ret", want: "out=1 out=18446744073709551614 exit=0"},
	{code: "func 0 p 0 -; defer 1; get 0; const 3; store; ret; " + head + "recover; out; out; ret", want: "out=1 out=18446744073709551614 exit=0"},
	// Locals begin with zero, in each call again, whatever was there before.
	{code: "func 0 nnn 0 -; get 0; out; get 1; out; get 2; out; ret", want: "out=0 out=0 out=0 exit=0"},
	{code: "call 1; call 1; ret; func 0 nn 0 -; get 0; out; get 1; out; const 5; set 0; const 6; set 1; ret", want: "out=0 out=0 out=0 out=0 exit=0"},
	{code: "const 9; call 1; call 2; ret; func 1 nnnn 0 -; get 1; out; const 5; set 0; const 6; set 1; const 7; set 2; const 8; set 3; ret; func 0 nnnn 0 -; get 0; out; get 1; out; get 2; out; get 3; out; ret", want: "out=0 out=0 out=0 out=0 out=0 exit=0"},
	{code: "call 1; call 1; ret; func 0 np 0 -; get 0; zero a; ret; a: const 1; call 2; ret; func 1 npn 0 -; get 2; out; addr 2; set 1; get 1; const 3; store; ret", want: "out=0 out=0 exit=0"},
	{code: "call 1; call 2; ret; func 0 np 0 -; addr 0; set 1; get 1; load; out; ret; func 0 np 0 -; get 1; load; out; ret", want: "out=0 " + byNull},
	{code: "defer 1; defer 1; ret; func 0 n 0 -; get 0; out; const 6; set 0; ret", want: "out=0 out=0 exit=0"},
	// No frame's locals touch another's.
	{code: "func 0 nn 0 -; const 1; set 0; const 2; set 1; const 3; call 1; get 0; out; get 1; out; ret; func 1 nn 0 -; const 4; set 1; const 5; set 0; get 0; out; get 1; out; ret", want: "out=5 out=4 out=1 out=2 exit=0"},
	{code: "func 0 n 0 -; const 9; set 0; call 1; get 0; out; ret; " + head + "call 2; ret; func 0 nnnn 0 -; const 1; set 0; const 2; set 1; const 3; set 2; const 4; set 3; ret", want: "out=9 exit=0"},
	{code: "func 0 " + strings.Repeat("n", 16) + " 0 -; const 7; set 15; addr 15; call 1; get 15; out; get 0; out; ret; func 1 p" + strings.Repeat("n", 15) + " 0 -; const 2; set 15; get 0; get 0; load; get 15; mul; store; ret", want: "out=14 out=0 exit=0"},
}

func TestP6_1Pointers(t *testing.T) {
	check(t, pointerExamples...)
}

// tapeExamples: numbers that are read and told.
var tapeExamples = []example{
	{code: "in; out; ret", want: "in=0 out=0 exit=0"},
	{code: "in; out; ret", tape: []uint64{}, want: "in=0 out=0 exit=0"},
	{code: "in; in; sub; out; ret", tape: []uint64{9, 4}, want: "in=9 in=4 out=5 exit=0"},
	{code: "in; in; in; in; exit", tape: []uint64{9, 4}, want: "in=9 in=4 in=0 in=0 exit=0"},
	{code: "in; exit", tape: []uint64{math.MaxUint64, 1}, want: "in=18446744073709551615 exit=18446744073709551615"},
	{code: "const 3; out; in; out; const 5; out; in; out; in; out; ret", tape: []uint64{1, 2}, want: "out=3 in=1 out=1 out=5 in=2 out=2 in=0 out=0 exit=0"},
	{code: "in; drop; call 1; in; out; ret; " + head + "in; out; ret", tape: []uint64{1, 2, 3}, want: "in=1 in=2 out=2 in=3 out=3 exit=0"},
	{code: "defer 1; in; panic; " + head + "in; out; recover; out; out; in; out; ret", tape: []uint64{7, 8}, want: "in=7 in=8 out=8 out=1 out=7 in=0 out=0 exit=0"},
	{code: "in; zero a; in; out; jump b; a: const 50; out; b: in; exit", tape: []uint64{0, 5}, want: "in=0 out=50 in=5 exit=5"},
	{code: "a: in; dup; out; zero b; jump a; b: ret", tape: []uint64{3, 2, 1}, want: "in=3 out=3 in=2 out=2 in=1 out=1 in=0 out=0 exit=0"},
}

func TestP6_1Tape(t *testing.T) {
	check(t, tapeExamples...)
}

// words at which the operations change what they do.
var words = []uint64{0, 1, 2, 3, 7, 8, 62, 63, 64, 65, 1<<63 - 1, 1 << 63, 1<<63 + 1, math.MaxUint64 - 1, math.MaxUint64}

func TestP6_1Reckoning(t *testing.T) {
	names := []string{"add", "sub", "mul", "div", "rem", "and", "or", "xor", "shl", "shr", "sar", "eq", "lt", "below"}
	for n, name := range names {
		op := api.Add + api.Op(n)
		p := parse(t, head+"in; in; "+name+"; out; ret")
		for _, a := range words {
			for _, b := range words {
				r := run(t, p, []uint64{a, b}, plenty)
				want := []api.Event{{Kind: api.Asked, Value: a}, {Kind: api.Asked, Value: b}}
				end := api.End{Kind: api.Exited}
				if v, e := word.Do(op, a, b); e == api.OK {
					want = append(want, api.Event{Kind: api.Wrote, Value: v})
				} else {
					end = api.End{Kind: api.Uncaught, Value: api.ByZero}
				}
				if !slices.Equal(r.Events, want) || r.End != end {
					t.Errorf("%s of %d and %d: %v %v; want %v %v", name, a, b, r.Events, r.End, want, end)
				}
				if by0 := b == 0 && (op == api.Div || op == api.Rem); by0 != (end.Kind == api.Uncaught) {
					t.Errorf("%s of %d and %d: a panic: %v", name, a, b, end)
				}
			}
		}
	}
}

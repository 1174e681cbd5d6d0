package lower_test

import (
	"strconv"
	"strings"
	"testing"

	"windlass/api"
	"windlass/build"
	"windlass/irun"
	"windlass/samples"
	"windlass/trace"
)

// run of graphs, read free or bound.
func run(t testing.TB, g api.Graphs, bound bool, tape []uint64, fuel int) api.Result {
	t.Helper()
	r, e := irun.Run(g, bound, tape, fuel)
	if e != api.OK {
		t.Fatalf("layer 8 returns %d for %v, read bound: %v, with fuel %d", int(e), g, bound, fuel)
	}
	return r
}

// twins of graphs, read free, and what they become.
func twins(t testing.TB, g api.Graphs, tape []uint64) samples.Twins {
	t.Helper()
	b, _ := lowered(t, g)
	return twinsOf(t, g, b, tape)
}

func twinsOf(t testing.TB, g, b api.Graphs, tape []uint64) samples.Twins {
	return samples.Twins{
		First:  func(fuel int) api.Result { return run(t, g, false, tape, fuel) },
		Second: func(fuel int) api.Result { return run(t, b, true, tape, fuel) },
		Ahead:  func(k int) int { return 40*k + 64 },
		Back:   func(n int) int { return 40 * (n + 1) },
	}
}

// most is the greatest fuel of which 40 times as much may be given.
const most = api.MaxFuel/40 - 2

// behaves holds P15.2 for some fuels.
func behaves(t testing.TB, g api.Graphs, tape []uint64, fuels ...int) {
	t.Helper()
	w := twins(t, g, tape)
	for _, fuel := range fuels {
		if told := w.Fault(fuel); told != "" {
			t.Fatalf("P15.2: %v with %v: %s", g, tape, told)
		}
	}
}

// behavesThroughout holds P15.2 for all fuels up to a little beyond the run's end,
// or up to a number. It answers the run.
func behavesThroughout(t testing.TB, g api.Graphs, tape []uint64) api.Result {
	t.Helper()
	r := run(t, g, false, tape, samples.Plenty)
	top := 40
	if trace.Ended(r.End) {
		top = min(2*r.Steps+80, 600)
	}
	fuels := []int{samples.Plenty}
	for fuel := range top {
		fuels = append(fuels, fuel)
	}
	behaves(t, g, tape, fuels...)
	return r
}

// example is graphs, and what comes of them.
type example struct {
	graphs string
	tape   []uint64
	want   string
}

func check(t *testing.T, list ...example) {
	t.Helper()
	for _, x := range list {
		g := graphs(t, x.graphs)
		r := behavesThroughout(t, g, x.tape)
		if got := trace.Print(r.Events, r.End); got != x.want {
			t.Errorf("%s: read free, they do %s; want %s", x.graphs, got, x.want)
		}
	}
}

// numbered is a text once for each number from one to another one, in which N is
// the number and M the number and 100.
func numbered(from, to int, text string) string {
	var b strings.Builder
	for i := from; i <= to; i++ {
		s := strings.ReplaceAll(text, "N", strconv.Itoa(i))
		b.WriteString(strings.ReplaceAll(s, "M", strconv.Itoa(100+i)))
	}
	return b.String()
}

// dirty is nodes that leave a number in each register that places have.
func dirty() string { return numbered(0, 11, "const N M; ") + numbered(0, 11, "set 3 N; ") }

func TestP15_2Chapter(t *testing.T) {
	check(t,
		example{graphs: "const 0 7; out 0; ret -", want: "out=7 exit=0"},
		example{graphs: "ret -", want: "exit=0"},
		example{graphs: "top: jump top", want: "fuel"},
		example{graphs: "const 0 5; const 1 3; call 1 2 1 0; out 2; ret - | graph params=0,1 result; sub 0 0 1; ret 0", want: "out=18446744073709551614 exit=0"},
		example{graphs: "const 0 5; const 1 3; call 1 2 0 1; out 2; ret - | graph params=1,0 result; sub 0 1 0; ret 0", want: "out=2 exit=0"},
	)
}

// TestP15_2Zeros: a place that is read before it is written is 0, once.
func TestP15_2Zeros(t *testing.T) {
	for n := range 23 {
		zeros := strings.Repeat("out=0 ", n+1)
		check(t,
			example{graphs: numbered(0, n, "out N; ") + "ret -", want: zeros + "exit=0"},
			example{graphs: dirty() + "call 1 -; ret - | " + numbered(0, n, "out N; ") + "ret -", want: zeros + "exit=0"},
			example{graphs: dirty() + "call 1 -; ret - | call 2 -; " + numbered(0, n, "out N; ") + "ret - | ret -", want: zeros + "exit=0"},
			example{graphs: dirty() + "defer 1; ret - | defer 2; " + numbered(0, n, "out N; ") + "ret - | ret -", want: zeros + "exit=0"},
			example{graphs: dirty() + "defer 1; defer 1; fail 3 | " + numbered(0, n, "out N; const N 5; ") + "ret -", want: zeros + zeros + "panic=3"},
			example{graphs: "call 1 -; ret - | graph ptrs=23; load 0 23; " + numbered(0, n, "out N; ") + "ret -", want: "panic=18446744073709551614"},
		)
	}
	check(t,
		// The Entry is in a loop.
		example{graphs: dirty() + "const 0 3; call 1 - 0; ret - | graph params=0; top: out 5; const 1 1; sub 0 0 1; add 5 5 0; branch 0 end; jump top; end: ret -", want: "out=0 out=2 out=3 exit=0"},
		example{graphs: dirty() + "const 0 3; call 1 - 0; ret - | graph params=0 entry=b; a: const 2 1; add 1 1 2; sub 0 0 2; b: out 1; branch 0 end; jump a; end: ret -", want: "out=0 out=1 out=2 out=3 exit=0"},
		example{graphs: dirty() + "call 1 -; ret - | top: out 1; in 1; branch 1 end; jump top; end: ret -", tape: []uint64{4, 5}, want: "out=0 in=4 out=4 in=5 out=5 in=0 exit=0"},
		// A parameter comes where a place that is 0 has its register.
		example{graphs: "const 0 5; call 1 - 0; ret - | graph params=5; out 0; out 5; ret -", want: "out=0 out=5 exit=0"},
		example{graphs: "const 0 5; const 1 6; const 2 7; const 3 8; call 1 - 0 1 2 3; ret - | graph params=23,22,9,21; " + numbered(0, 8, "out N; ") + "out 9; out 21; out 22; out 23; ret -", want: strings.Repeat("out=0 ", 9) + "out=7 out=8 out=6 out=5 exit=0"},
		example{graphs: "const 0 5; const 1 6; const 2 7; const 3 8; call 1 - 0 1 2 3; ret - | graph params=23,22,9,21; call 2 -; " + numbered(0, 8, "out N; ") + "out 9; out 21; out 22; out 23; ret - | ret -", want: strings.Repeat("out=0 ", 9) + "out=7 out=8 out=6 out=5 exit=0"},
		// On one way it is written first, on the other one it is not.
		example{graphs: dirty() + "call 1 -; call 1 -; ret - | in 0; branch 0 there; const 5 6; there: out 5; ret -", tape: []uint64{0, 1}, want: "in=0 out=0 in=1 out=6 exit=0"},
		// Null pointers.
		example{graphs: dirty() + "call 1 -; ret - | graph ptrs=9; load 0 9; out 0; ret -", want: "panic=18446744073709551614"},
		example{graphs: dirty() + "call 1 -; ret - | graph ptrs=9; call 2 -; load 0 9; out 0; ret - | ret -", want: "panic=18446744073709551614"},
		example{graphs: dirty() + "call 1 -; ret - | graph ptrs=8,9; defer 2 9; move 8 9; store 8 0; ret - | graph params=3 ptrs=3; recover 0 1; out 1; out 0; load 0 3; ret -", want: "out=1 out=18446744073709551614 panic=18446744073709551614"},
	)
}

// permutations of the numbers below n, as lists that commas separate.
func permutations(n int) []string {
	if n == 0 {
		return []string{""}
	}
	var all []string
	for _, s := range permutations(n - 1) {
		var list []string
		if s != "" {
			list = strings.Split(s, ",")
		}
		for i := range n {
			one := append(append(append([]string{}, list[:i]...), strconv.Itoa(n-1)), list[i:]...)
			all = append(all, strings.Join(one, ","))
		}
	}
	return all
}

// TestP15_2Parameters: in all orders of places, all of them read, or some, at once
// or over a call, and in deferred calls.
func TestP15_2Parameters(t *testing.T) {
	for n := 1; n <= 4; n++ {
		for _, params := range permutations(n) {
			places := strings.Split(params, ",")
			for some := range 1 << n {
				reads, want := "", ""
				for i, p := range places {
					if some>>i&1 > 0 {
						reads += "out " + p + "; "
						want += "out=" + strconv.Itoa(100+i) + " "
					}
				}
				args := numbered(0, n-1, "N ")
				head := " | graph params=" + params + "; "
				check(t,
					example{graphs: dirty() + "call 1 - " + args + "; ret -" + head + reads + "ret -", want: want + "exit=0"},
					example{graphs: dirty() + "defer 1 " + args + "; ret -" + head + "call 2 -; " + reads + "ret - | ret -", want: want + "exit=0"},
					example{graphs: dirty() + "defer 1 " + args + "; fail 3" + head + "out 9; " + reads + "ret -", want: "out=0 " + want + "panic=3"},
				)
			}
		}
	}
	check(t,
		example{graphs: "graph ptrs=1; const 0 5; addr 1 2; call 1 - 0 1; get 0 2; out 0; ret - | graph params=3,2 ptrs=2; store 2 3; ret -", want: "out=5 exit=0"},
		example{graphs: "graph ptrs=1; const 0 5; addr 1 2; call 1 - 0 1; get 0 2; out 0; ret - | graph params=3,2 ptrs=2; call 2 -; store 2 3; ret - | " + dirty() + "ret -", want: "out=5 exit=0"},
		example{graphs: "const 0 5; const 1 6; call 1 - 0 1; ret - | graph params=1,0 init=2,0; get 3 2; out 3; get 3 0; out 3; ret -", want: "out=5 out=6 exit=0"},
		example{graphs: "const 0 5; const 1 6; call 1 - 0 1; ret - | graph params=1,0 init=2,2; out 0; out 1; get 3 2; out 3; ret -", want: "out=6 out=5 out=6 exit=0"},
		// A parameter is written before it is read.
		example{graphs: "const 0 5; const 1 6; call 1 - 0 1; ret - | graph params=1,0; const 1 7; out 1; out 0; ret -", want: "out=7 out=6 exit=0"},
		// Its frame's first node is in a loop.
		example{graphs: "const 0 5; const 1 2; call 1 - 0 1; ret - | graph params=1,0; top: out 1; const 2 1; sub 0 0 2; add 1 1 2; branch 0 end; jump top; end: ret -", want: "out=5 out=6 exit=0"},
	)
}

// TestP15_2Arguments: each list of up to four places, with some that are read
// afterwards.
func TestP15_2Arguments(t *testing.T) {
	n := 0
	for args := range 4 * 4 * 4 * 4 {
		list, want := "", ""
		for digit := 64; digit > 0; digit /= 4 {
			p := args / digit % 4
			list += " " + strconv.Itoa(p)
			want += "out=" + strconv.Itoa(100+p) + " "
		}
		callee := " | graph params=3,2,1,0; out 3; out 2; out 1; out 0; ret -"
		for kept := range 5 {
			after, told := numbered(0, kept-1, "out N; "), numbered(0, kept-1, "out=M ")
			before := numbered(0, 3, "const N M; ")
			check(t, example{graphs: before + "call 1 -" + list + "; " + after + "ret -" + callee, want: want + told + "exit=0"})
			if kept%2 == 0 {
				check(t, example{graphs: before + "defer 1" + list + "; " + after + "ret -" + callee, want: told + want + "exit=0"})
			}
			n++
		}
	}
	if n != 1280 {
		t.Errorf("there are %d", n)
	}
}

// TestP15_2Results: what a call returns is told, kept over another one, handed on,
// or not asked for.
func TestP15_2Results(t *testing.T) {
	callee := " | graph params=0 result; const 1 1; add 0 0 1; ret 0"
	check(t,
		example{graphs: "const 0 5; call 1 1 0; out 1; ret -" + callee, want: "out=6 exit=0"},
		example{graphs: "const 0 5; call 1 0 0; out 0; ret -" + callee, want: "out=6 exit=0"},
		example{graphs: "const 0 5; call 1 1 0; out 0; ret -" + callee, want: "out=5 exit=0"},
		example{graphs: "const 0 5; call 1 - 0; out 0; ret -" + callee, want: "out=5 exit=0"},
		example{graphs: "const 0 5; call 1 1 0; call 1 2 1; call 1 3 2; out 1; out 2; out 3; out 0; ret -" + callee, want: "out=6 out=7 out=8 out=5 exit=0"},
		example{graphs: "const 0 5; call 1 0 0; call 1 0 0; call 1 0 0; out 0; ret -" + callee, want: "out=8 exit=0"},
		example{graphs: "const 0 5; const 1 6; call 1 1 0; out 1; ret -" + callee, want: "out=6 exit=0"},
		example{graphs: "top: in 0; call 1 1 0; branch 0 end; out 1; jump top; end: out 1; ret -" + callee, tape: []uint64{7, 8}, want: "in=7 out=8 in=8 out=9 in=0 out=1 exit=0"},
		// A branch of which one way needs it.
		example{graphs: "const 0 5; call 1 1 0; in 2; branch 2 end; out 1; end: out 0; ret -" + callee, tape: []uint64{1}, want: "in=1 out=6 out=5 exit=0"},
		// The callee has a number of its own, that of a panic that was recovered.
		example{graphs: "call 1 1; out 1; ret - | graph result keep=2; const 0 5; set 2 0; defer 2; fail 7 | recover 0 1; ret -", want: "out=5 exit=0"},
	)
	for n := 1; n < 20; n++ {
		set, told := numbered(0, n, "const N M; "), numbered(0, n, "out N; ")
		want := numbered(0, n, "out=M ")
		check(t,
			example{graphs: set + "call 1 20 3; " + told + "out 20; ret -" + callee, want: want + "out=" + map[bool]string{true: "104", false: "1"}[n >= 3] + " exit=0"},
			example{graphs: set + "call 1 21 0; call 1 22 21; call 1 23 22; " + told + "out 22; out 21; out 23; ret -" + callee, want: want + "out=102 out=101 out=103 exit=0"},
		)
	}
}

// TestP15_2Slots: each operation where all registers are in use.
func TestP15_2Slots(t *testing.T) {
	list := []string{
		"const 13 7; const 14 2; out 14; sub 15 13 14; out 15; out 13 | out=2 out=5 out=7",
		"const 13 7; move 14 13; const 13 3; out 14; out 13 | out=7 out=3",
		"const 13 7; set 1 13; get 14 1; out 14 | out=7",
		"const 13 7; set 1 13; addr 20 1; load 14 20; out 14; store 20 14; get 15 1; out 15 | out=7 out=7",
		"addr 20 1; addr 21 2; const 13 7; const 14 8; store 20 13; store 21 14; get 13 1; get 14 2; out 13; out 14 | out=7 out=8",
		"addr 20 1; move 21 20; const 13 7; store 21 13; load 14 20; out 14 | out=7",
		"in 13; in 14; out 13; out 14 | in=4 in=0 out=4 out=0",
		"recover 13 14; out 14; out 13 | out=0 out=0",
		"const 13 0; const 14 1; branch 13 a; tell 1; a: branch 14 b; tell 2; b: out 14 | out=2 out=1",
		"const 13 7; const 14 8; call 1 15 14 13; out 15; out 14; out 13 | out=1 out=8 out=7",
		"const 13 7; const 14 8; call 1 - 14 13; out 14 | out=8",
		"const 13 7; const 14 8; call 1 13 13 14; out 13 | out=18446744073709551615",
		"addr 20 1; const 13 7; call 2 - 13 20; load 13 20; out 13; get 13 1; out 13 | out=7 out=7",
		"addr 20 1; const 13 7; defer 2 13 20; load 13 20; out 13 | out=0",
		"const 13 7; call 3 -; out 13 | out=7",
		"nop; jump on; tell 4; on: nop |",
	}
	callees := " | graph params=5,2 result; sub 2 5 2; ret 2 | graph params=3,4 ptrs=4; store 4 3; ret - | " + dirty() + "ret -"
	full := numbered(0, 12, "const N M; ")
	for _, x := range list {
		nodes, told, _ := strings.Cut(x, " |")
		want := strings.TrimSpace(told)
		if want != "" {
			want += " "
		}
		text := "graph ptrs=20,21; " + full + nodes + "; " + numbered(0, 12, "out N; ")
		all := want + numbered(0, 12, "out=M ")
		check(t,
			example{graphs: text + "ret -" + callees, tape: []uint64{4}, want: all + "exit=0"},
			example{graphs: text + "const 13 9; exit 13" + callees, tape: []uint64{4}, want: all + "exit=9"},
			example{graphs: text + "const 13 9; panic 13" + callees, tape: []uint64{4}, want: all + "panic=9"},
			example{graphs: "graph ptrs=20,21; " + full + nodes + "; const 13 5; panic 13; " + callees, tape: []uint64{4}, want: want + "panic=5"},
			example{graphs: strings.Replace(text, "ptrs=20,21; ", "ptrs=20,21; defer 4; ", 1) + "const 13 9; panic 13" + callees + " | recover 13 14; out 13; ret -", tape: []uint64{4}, want: all + "out=9 exit=0"},
		)
	}
}

// TestP15_2Kept: whatever is called, panics and is recovered, what is in use there
// is as it was (P7), and deferred calls get what they were given.
func TestP15_2Kept(t *testing.T) {
	for n := range 20 {
		set, tell, want := numbered(0, n, "const N M; "), numbered(0, n, "out N; "), numbered(0, n, "out=M ")
		for _, callees := range []string{
			"| " + dirty() + "ret -",
			"| " + dirty() + "call 2 -; ret - | " + dirty() + "ret -",
			"| defer 2; " + dirty() + "ret - | " + dirty() + "ret -",
			"| defer 2; " + dirty() + "fail 3 | recover 0 1; " + dirty() + "ret -",
			"| defer 2; " + dirty() + "call 3 -; ret - | recover 0 1; " + dirty() + "ret - | " + dirty() + "call 4 -; ret - | " + dirty() + "fail 6",
			"| defer 2; defer 3; " + dirty() + "fail 3 | recover 0 1; ret - | " + dirty() + "fail 4",
			"| graph result; " + dirty() + "ret 7",
		} {
			check(t,
				example{graphs: set + "call 1 -; " + tell + "ret - " + callees, want: want + "exit=0"},
				example{graphs: set + "call 1 -; call 1 -; " + tell + "call 1 -; " + tell + "ret - " + callees, want: want + want + "exit=0"},
			)
		}
		check(t,
			example{graphs: set + "defer 1 0; " + numbered(0, n, "const N 5; ") + "defer 1 0; ret - | graph params=2; out 2; ret -", want: "out=5 out=100 exit=0"},
			example{graphs: set + "defer 1 0; " + tell + "ret - | graph params=2; out 2; ret -", want: want + "out=100 exit=0"},
		)
	}
	check(t,
		// A graph that calls itself.
		example{graphs: "const 0 5; call 1 1 0; out 1; ret - | graph params=3 result; branch 3 end; const 1 1; sub 2 3 1; call 1 4 2; add 4 4 3; ret 4; end: const 5 100; ret 5", want: "out=115 exit=0"},
		example{graphs: "graph ptrs=1; const 0 3; addr 1 0; call 1 - 0 1; get 2 0; out 2; ret - | graph params=0,1 ptrs=1,7; branch 0 end; const 2 1; sub 3 0 2; addr 7 2; call 1 - 3 7; get 4 2; add 4 4 0; store 1 4; ret -; end: const 5 100; store 1 5; ret -", want: "out=106 exit=0"},
	)
}

// built are the graphs of a program.
func built(t testing.TB, p api.Program) api.Graphs {
	t.Helper()
	g, e := build.Build(p)
	if e != api.OK {
		t.Fatalf("layer 9 returns %d for %s", int(e), samples.Printed(p))
	}
	return g
}

// TestP15_2Programs: the graphs of all sample programs.
func TestP15_2Programs(t *testing.T) {
	for _, x := range samples.All() {
		p, _ := x.Program()
		r := behavesThroughout(t, built(t, p), x.Tape)
		if got := trace.Print(r.Events, r.End); got != x.Want {
			t.Errorf("%q: its graphs do %s; want %s", x.Code, got, x.Want)
		}
	}
	for _, s := range samples.Endless() {
		p, _ := samples.Program(s)
		behaves(t, built(t, p), []uint64{5, 6, 7}, 0, 1, 2, 3, 5, 10, 30, 100, 1000, most)
	}
	behaves(t, built(t, samples.Great()), nil, 0, 1, 100, 1000, 3000, 10000, most)
}

// TestP15_2Deep: runs of many frames.
func TestP15_2Deep(t *testing.T) {
	for _, text := range []string{
		"in 0; call 1 1 0; out 1; ret - | graph params=3 result; branch 3 end; const 1 1; sub 2 3 1; call 1 4 2; add 4 4 3; ret 4; end: const 5 100; ret 5",
		"graph ptrs=1; in 0; addr 1 0; call 1 - 0 1; get 2 0; out 2; ret - | graph params=2,1 ptrs=1; branch 2 end; const 3 1; sub 4 2 3; call 1 - 4 1; load 5 1; add 5 5 2; store 1 5; end: ret -",
		"in 0; defer 1 0; const 1 1; panic 1 | graph params=2; branch 2 end; const 1 1; sub 2 2 1; defer 1 2; end: panic 2",
	} {
		g := graphs(t, text)
		if r := run(t, g, false, []uint64{2500}, most); !trace.Ended(r.End) || r.Depth < 1000 {
			t.Errorf("%s: %d frames", text, r.Depth)
		}
		behaves(t, g, []uint64{2500}, 10, 100, 1000, 10000, most)
	}
}

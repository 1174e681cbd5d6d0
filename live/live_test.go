package live_test

import (
	"slices"
	"strconv"
	"strings"
	"testing"

	"windlass/api"
	"windlass/ir"
	"windlass/live"
	"windlass/samples"
)

// graphs of a text (samples.Graphs), which are valid, read free.
func graphs(t testing.TB, text string) api.Graphs {
	t.Helper()
	g, ok := samples.Graphs(text)
	if !ok || ir.Check(g, false) != api.OK {
		t.Fatalf("%q is a text of graphs: %v; layer 7 says %d", text, ok, int(ir.Check(g, false)))
	}
	return g
}

func at(t testing.TB, g api.Graphs, f int) [][]int {
	t.Helper()
	in, e := live.In(g, f)
	if e != api.OK || len(in) != len(g.Funcs[f].Nodes) {
		t.Fatalf("In returns %d lists, %d, for graph %d of %v", len(in), int(e), f, g)
	}
	return in
}

func after(t testing.TB, g api.Graphs, f int) [][]int {
	t.Helper()
	out, e := live.Out(g, f)
	if e != api.OK || len(out) != len(g.Funcs[f].Nodes) {
		t.Fatalf("Out returns %d lists, %d, for graph %d of %v", len(out), int(e), f, g)
	}
	return out
}

// told is lists as a text: those of the nodes separated by semicolons, - for none.
func told(lists [][]int) string {
	var parts []string
	for _, list := range lists {
		words := []string{"-"}
		for i, p := range list {
			if i == 0 {
				words = nil
			}
			words = append(words, strconv.Itoa(p))
		}
		parts = append(parts, strings.Join(words, " "))
	}
	return strings.Join(parts, "; ")
}

// example is a program, and what is live in one of its graphs.
type example struct {
	text    string
	graph   int
	in, out string
}

func check(t *testing.T, list ...example) {
	t.Helper()
	for _, x := range list {
		g := graphs(t, x.text)
		if got := told(at(t, g, x.graph)); got != x.in {
			t.Errorf("%q: live at the nodes is %s; want %s", x.text, got, x.in)
		}
		if got := told(after(t, g, x.graph)); got != x.out {
			t.Errorf("%q: live after the nodes is %s; want %s", x.text, got, x.out)
		}
	}
}

func TestP11_1Examples(t *testing.T) {
	check(t,
		example{text: "const 0 7; out 0; ret -", in: "-; 0; -", out: "0; -; -"},
		example{text: "graph places=1; const 0 7; out 0; ret -", in: "-; 0; -", out: "0; -; -"},
		// A place that is read before it was written.
		example{text: "nop; out 3; const 3 1; out 3; ret -", in: "3; 3; -; 3; -", out: "3; -; 3; -; -"},
		example{text: "graph entry=a; ret -; a: out 3; ret -", in: "-; 3; -", out: "-; -; -"},
		// No places at all.
		example{text: "graph places=0; ret -", in: "-", out: "-"},
		example{text: "graph places=0; nop; a: jump a", in: "-; -", out: "-; -"},
	)
}

func TestP11_1Lines(t *testing.T) {
	check(t,
		example{text: "const 0 1; const 1 2; add 2 0 1; out 2; out 1; ret -", in: "-; 0; 0 1; 1 2; 1; -", out: "0; 0 1; 1 2; 1; -; -"},
		// Written and never read; written twice; read twice.
		example{text: "const 0 1; const 1 1; ret -", in: "-; -; -", out: "-; -; -"},
		example{text: "const 0 1; const 0 2; out 0; ret -", in: "-; -; 0; -", out: "-; 0; -; -"},
		example{text: "in 5; out 5; out 5; in 5; ret -", in: "-; 5; 5; -; -", out: "5; 5; -; -; -"},
		// From place to place, and around.
		example{text: "in 0; move 1 0; move 2 1; move 0 2; out 0; ret -", in: "-; 0; 1; 2; 0; -", out: "0; 1; 2; 0; -; -"},
		example{text: "in 0; move 0 0; move 0 0; exit 0", in: "-; 0; 0; 0", out: "0; 0; 0; -"},
		example{text: "add 0 0 0; add 0 0 1; add 1 0 1; out 0; ret -", in: "0 1; 0 1; 0 1; 0; -", out: "0 1; 0 1; 0; -; -"},
		// In ascending order, whatever the order of the reads is.
		example{text: "out 9; out 23; out 0; out 4; ret -", in: "0 4 9 23; 0 4 23; 0 4; 4; -", out: "0 4 23; 0 4; 4; -; -"},
		example{text: "add 7 22 3; sub 1 9 8; out 1; out 7; ret -", in: "3 8 9 22; 7 8 9; 1 7; 7; -", out: "7 8 9; 1 7; 7; -; -"},
	)
}

func TestP11_1Branches(t *testing.T) {
	check(t,
		// Read on one side, on both, written on one.
		example{text: "branch 0 a; out 1; ret -; a: out 2; ret -", in: "0 1 2; 1; -; 2; -", out: "1 2; -; -; -; -"},
		example{text: "branch 0 a; out 1; a: ret -", in: "0 1; 1; -", out: "1; -; -"},
		example{text: "branch 0 a; nop; a: out 1; ret -", in: "0 1; 1; 1; -", out: "1; 1; -; -"},
		example{text: "branch 0 a; const 1 5; a: out 1; ret -", in: "0 1; -; 1; -", out: "1; 1; -; -"},
		example{text: "branch 0 a; const 1 5; jump b; a: const 1 6; b: out 1; ret -", in: "0; -; 1; -; 1; -", out: "-; 1; 1; 1; -; -"},
		// Both ways lead to one node.
		example{text: "branch 0 a; a: out 1; ret -", in: "0 1; 1; -", out: "1; -; -"},
		// The place that is branched by is read further on, or not.
		example{text: "branch 0 a; out 0; a: ret -", in: "0; 0; -", out: "0; -; -"},
		example{text: "in 0; branch 0 a; a: in 0; ret -", in: "-; 0; -; -", out: "0; -; -; -"},
	)
}

func TestP11_1Loops(t *testing.T) {
	check(t,
		// The loop's end is read around it.
		example{text: "const 0 9; a: branch 0 b; const 1 1; sub 0 0 1; jump a; b: ret -", in: "-; 0; 0; 0 1; 0; -", out: "0; 0; 0 1; 0; 0; -"},
		example{text: "a: in 0; branch 1 b; out 0; jump a; b: out 0; ret -", in: "1; 0 1; 0 1; 1; 0; -", out: "0 1; 0 1; 1; 1; -; -"},
		// It is read ahead of where it is written, around the loop.
		example{text: "a: out 0; in 0; branch 1 a; ret -", in: "0 1; 1; 0 1; -", out: "1; 0 1; 0 1; -"},
		// What a loop reads is live at what leads to it, and in all of it.
		example{text: "a: nop; out 0; b: nop; jump a", in: "0; 0; 0; 0", out: "0; 0; 0; 0"},
		// A node that continues with itself.
		example{text: "a: jump a; out 1; ret -", in: "-; 1; -", out: "-; -; -"},
		example{text: "a: branch 0 a; a2: branch 1 a2; ret -", in: "0 1; 1; -", out: "0 1; 1; -"},
		example{text: "in 0; a: branch 1 a; out 0; ret -", in: "1; 0 1; 0; -", out: "0 1; 0 1; -; -"},
		// A loop that nothing leaves: what is read elsewhere is not live in it.
		example{text: "in 0; branch 0 b; a: out 1; jump a; b: out 2; ret -", in: "1 2; 0 1 2; 1; 1; 2; -", out: "0 1 2; 1 2; 1; 1; -; -"},
		example{text: "in 0; a: nop; jump a; out 0; ret -", in: "-; -; -; 0; -", out: "-; -; -; -; -"},
		// A loop in a loop, and one with two ways into it.
		example{text: "a: in 0; b: branch 0 a; out 1; branch 2 b; ret -", in: "1 2; 0 1 2; 0 1 2; 0 1 2; -", out: "0 1 2; 0 1 2; 0 1 2; 0 1 2; -"},
		example{text: "branch 0 b; a: in 1; b: out 1; branch 2 a; out 3; ret -", in: "0 1 2 3; 2 3; 1 2 3; 2 3; 3; -", out: "1 2 3; 1 2 3; 2 3; 2 3; -; -"},
	)
}

// Nodes that are not reachable from the Entry are answered like all others, and
// the Entry does not matter.
func TestP11_1Unreachable(t *testing.T) {
	check(t,
		example{text: "ret -; out 5; ret -", in: "-; 5; -", out: "-; -; -"},
		example{text: "jump b; a: out 5; b: out 6; in 5; out 7; ret -", in: "6 7; 5 6 7; 6 7; 7; 7; -", out: "6 7; 6 7; 7; 7; -; -"},
		example{text: "jump b; a: in 6; b: out 6; ret -", in: "6; -; 6; -", out: "6; 6; -; -"},
	)
	for _, entry := range []string{"a", "b", "c", "d"} {
		check(t, example{text: "graph entry=" + entry + "; a: in 0; b: add 1 0 2; c: out 1; d: ret -", in: "2; 0 2; 1; -", out: "0 2; 1; -; -"})
	}
}

// Cells, and what the head of a graph names, are no reads.
func TestP11_1Heads(t *testing.T) {
	check(t,
		example{text: "graph keep=1; nop; ret -", in: "-; -", out: "-; -"},
		example{text: "graph keep=0; in 0; set 0 1; get 0 1; ret -", in: "1; 1; -; -", out: "1; -; -; -"},
		example{text: "ret - | graph params=1,0,2 init=0,-,3 keep=3; nop; out 0; ret -", graph: 1, in: "0; 0; -", out: "0; -; -"},
		example{text: "ret - | graph params=0,1 result; ret 1", graph: 1, in: "1", out: "-"},
		example{text: "ret - | graph params=3 result; in 3; ret 3", graph: 1, in: "-; 3", out: "3; -"},
	)
}

// Each graph has its own places.
func TestP11_1Graphs(t *testing.T) {
	const text = "in 0; call 1 - 0 7; out 2; ret - | graph params=3,4; out 3; out 5; call 2 6; ret - | graph result; call 2 0; ret 8"
	check(t,
		example{text: text, graph: 0, in: "2 7; 0 2 7; 2; -", out: "0 2 7; 2; -; -"},
		example{text: text, graph: 1, in: "3 5; 5; -; -", out: "5; -; -; -"},
		example{text: text, graph: 2, in: "8; 8", out: "8; -"},
	)
}

func checkProbe(t *testing.T, name string, g api.Graphs, x samples.Probe, all bool) {
	t.Helper()
	var want, behind []int
	for p := range 6 {
		passes := all && !x.Ends && !slices.Contains(x.Writes, p)
		if passes || slices.Contains(x.Reads, p) {
			want = append(want, p)
		}
		if all && !x.Ends {
			behind = append(behind, p)
		}
	}
	if got := at(t, g, 0)[0]; !slices.Equal(got, want) {
		t.Errorf("%q, with %v behind it: live at it is %v; want %v", name, behind, got, want)
	}
	if got := after(t, g, 0)[0]; !slices.Equal(got, behind) {
		t.Errorf("%q: live after it is %v; want %v", name, got, behind)
	}
}

func TestP11_1Operations(t *testing.T) {
	for _, x := range samples.Probes() {
		for _, all := range []bool{false, true} {
			checkProbe(t, x.Node, graphs(t, x.Text(all)), x, all)
		}
	}
	for _, all := range []bool{false, true} {
		text := strings.Replace(samples.Probe{Node: "nop"}.Text(all), "ret - | ret -", "ret - | graph places=6 result; ret 3", 1)
		if got := told(at(t, graphs(t, text), 2)); got != "3" {
			t.Errorf("a NRet of place 3: live at it is %s", got)
		}
	}
}

func TestP11_1UnusedFields(t *testing.T) {
	for _, x := range samples.Probes() {
		for _, all := range []bool{false, true} {
			for v := -2; v < 8; v++ {
				g := graphs(t, x.Text(all))
				samples.FillUnused(&g.Funcs[0].Nodes[0], v)
				checkProbe(t, x.Node+", where other fields have "+strconv.Itoa(v), g, x, all)
			}
		}
	}
}

// both calls, with what they answer in common.
func both(g api.Graphs, f int) [2]api.Errno {
	in, d := live.In(g, f)
	out, e := live.Out(g, f)
	if d != api.OK && in != nil || e != api.OK && out != nil {
		return [2]api.Errno{-1, -1}
	}
	return [2]api.Errno{d, e}
}

func TestP11_1Errors(t *testing.T) {
	for _, x := range samples.Asks() {
		if got := both(x.Graphs, x.Graph); got != [2]api.Errno{x.Want, x.Want} {
			t.Errorf("%s: In and Out of graph %d return %v; want %d (-1: and lists)", x.Name, x.Graph, got, int(x.Want))
		}
	}
}

// A program that is valid only if it is read free: places and arguments may be any.
func TestP11_1ReadFree(t *testing.T) {
	free := graphs(t, "graph places=3; call 1 1 2 0; out 1; ret - | graph params=5,3 result; ret 5")
	if ir.Check(free, true) == api.OK {
		t.Fatal("it is valid, read bound, too")
	}
	if got := told(at(t, free, 0)); got != "0 2; 1; -" {
		t.Errorf("%v: live at the nodes is %s", free, got)
	}
}

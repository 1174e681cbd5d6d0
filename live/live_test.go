package live_test

import (
	"math"
	"slices"
	"strconv"
	"strings"
	"testing"

	"windlass/api"
	"windlass/ir"
	"windlass/live"
	"windlass/samples"
)

// graphs of a text (samples.Graphs), which are valid, read free.
func graphs(t testing.TB, text string) api.Graphs {
	t.Helper()
	g, ok := samples.Graphs(text)
	if !ok || ir.Check(g, false) != api.OK {
		t.Fatalf("%q is a text of graphs: %v; layer 7 says %d", text, ok, int(ir.Check(g, false)))
	}
	return g
}

func at(t testing.TB, g api.Graphs, f int) [][]int {
	t.Helper()
	in, e := live.In(g, f)
	if e != api.OK || len(in) != len(g.Funcs[f].Nodes) {
		t.Fatalf("In returns %d lists, %d, for graph %d of %v", len(in), int(e), f, g)
	}
	return in
}

func after(t testing.TB, g api.Graphs, f int) [][]int {
	t.Helper()
	out, e := live.Out(g, f)
	if e != api.OK || len(out) != len(g.Funcs[f].Nodes) {
		t.Fatalf("Out returns %d lists, %d, for graph %d of %v", len(out), int(e), f, g)
	}
	return out
}

// told is lists as a text: those of the nodes separated by semicolons, - for none.
func told(lists [][]int) string {
	var parts []string
	for _, list := range lists {
		words := []string{"-"}
		for i, p := range list {
			if i == 0 {
				words = nil
			}
			words = append(words, strconv.Itoa(p))
		}
		parts = append(parts, strings.Join(words, " "))
	}
	return strings.Join(parts, "; ")
}

// example is a program, and what is live in one of its graphs.
type example struct {
	text    string
	graph   int
	in, out string
}

func check(t *testing.T, list ...example) {
	t.Helper()
	for _, x := range list {
		g := graphs(t, x.text)
		if got := told(at(t, g, x.graph)); got != x.in {
			t.Errorf("%q: live at the nodes is %s; want %s", x.text, got, x.in)
		}
		if got := told(after(t, g, x.graph)); got != x.out {
			t.Errorf("%q: live after the nodes is %s; want %s", x.text, got, x.out)
		}
	}
}

func TestP11_1Examples(t *testing.T) {
	check(t,
		example{text: "const 0 7; out 0; ret -", in: "-; 0; -", out: "0; -; -"},
		example{text: "graph places=1; const 0 7; out 0; ret -", in: "-; 0; -", out: "0; -; -"},
		// A place that is read before it was written.
		example{text: "nop; out 3; const 3 1; out 3; ret -", in: "3; 3; -; 3; -", out: "3; -; 3; -; -"},
		example{text: "graph entry=a; ret -; a: out 3; ret -", in: "-; 3; -", out: "-; -; -"},
		// No places at all.
		example{text: "graph places=0; ret -", in: "-", out: "-"},
		example{text: "graph places=0; nop; a: jump a", in: "-; -", out: "-; -"},
	)
}

func TestP11_1Lines(t *testing.T) {
	check(t,
		example{text: "const 0 1; const 1 2; add 2 0 1; out 2; out 1; ret -", in: "-; 0; 0 1; 1 2; 1; -", out: "0; 0 1; 1 2; 1; -; -"},
		// Written and never read; written twice; read twice.
		example{text: "const 0 1; const 1 1; ret -", in: "-; -; -", out: "-; -; -"},
		example{text: "const 0 1; const 0 2; out 0; ret -", in: "-; -; 0; -", out: "-; 0; -; -"},
		example{text: "in 5; out 5; out 5; in 5; ret -", in: "-; 5; 5; -; -", out: "5; 5; -; -; -"},
		// From place to place, and around.
		example{text: "in 0; move 1 0; move 2 1; move 0 2; out 0; ret -", in: "-; 0; 1; 2; 0; -", out: "0; 1; 2; 0; -; -"},
		example{text: "in 0; move 0 0; move 0 0; exit 0", in: "-; 0; 0; 0", out: "0; 0; 0; -"},
		example{text: "add 0 0 0; add 0 0 1; add 1 0 1; out 0; ret -", in: "0 1; 0 1; 0 1; 0; -", out: "0 1; 0 1; 0; -; -"},
		// In ascending order, whatever the order of the reads is.
		example{text: "out 9; out 23; out 0; out 4; ret -", in: "0 4 9 23; 0 4 23; 0 4; 4; -", out: "0 4 23; 0 4; 4; -; -"},
		example{text: "add 7 22 3; sub 1 9 8; out 1; out 7; ret -", in: "3 8 9 22; 7 8 9; 1 7; 7; -", out: "7 8 9; 1 7; 7; -; -"},
	)
}

func TestP11_1Branches(t *testing.T) {
	check(t,
		// Read on one side, on both, written on one.
		example{text: "branch 0 a; out 1; ret -; a: out 2; ret -", in: "0 1 2; 1; -; 2; -", out: "1 2; -; -; -; -"},
		example{text: "branch 0 a; out 1; a: ret -", in: "0 1; 1; -", out: "1; -; -"},
		example{text: "branch 0 a; nop; a: out 1; ret -", in: "0 1; 1; 1; -", out: "1; 1; -; -"},
		example{text: "branch 0 a; const 1 5; a: out 1; ret -", in: "0 1; -; 1; -", out: "1; 1; -; -"},
		example{text: "branch 0 a; const 1 5; jump b; a: const 1 6; b: out 1; ret -", in: "0; -; 1; -; 1; -", out: "-; 1; 1; 1; -; -"},
		// Both ways lead to one node.
		example{text: "branch 0 a; a: out 1; ret -", in: "0 1; 1; -", out: "1; -; -"},
		// The place that is branched by is read further on, or not.
		example{text: "branch 0 a; out 0; a: ret -", in: "0; 0; -", out: "0; -; -"},
		example{text: "in 0; branch 0 a; a: in 0; ret -", in: "-; 0; -; -", out: "0; -; -; -"},
	)
}

func TestP11_1Loops(t *testing.T) {
	check(t,
		// The loop's end is read around it.
		example{text: "const 0 9; a: branch 0 b; const 1 1; sub 0 0 1; jump a; b: ret -", in: "-; 0; 0; 0 1; 0; -", out: "0; 0; 0 1; 0; 0; -"},
		example{text: "a: in 0; branch 1 b; out 0; jump a; b: out 0; ret -", in: "1; 0 1; 0 1; 1; 0; -", out: "0 1; 0 1; 1; 1; -; -"},
		// It is read ahead of where it is written, around the loop.
		example{text: "a: out 0; in 0; branch 1 a; ret -", in: "0 1; 1; 0 1; -", out: "1; 0 1; 0 1; -"},
		// What a loop reads is live at what leads to it, and in all of it.
		example{text: "a: nop; out 0; b: nop; jump a", in: "0; 0; 0; 0", out: "0; 0; 0; 0"},
		// A node that continues with itself.
		example{text: "a: jump a; out 1; ret -", in: "-; 1; -", out: "-; -; -"},
		example{text: "a: branch 0 a; a2: branch 1 a2; ret -", in: "0 1; 1; -", out: "0 1; 1; -"},
		example{text: "in 0; a: branch 1 a; out 0; ret -", in: "1; 0 1; 0; -", out: "0 1; 0 1; -; -"},
		// A loop that nothing leaves: what is read elsewhere is not live in it.
		example{text: "in 0; branch 0 b; a: out 1; jump a; b: out 2; ret -", in: "1 2; 0 1 2; 1; 1; 2; -", out: "0 1 2; 1 2; 1; 1; -; -"},
		example{text: "in 0; a: nop; jump a; out 0; ret -", in: "-; -; -; 0; -", out: "-; -; -; -; -"},
		// A loop in a loop, and one with two ways into it.
		example{text: "a: in 0; b: branch 0 a; out 1; branch 2 b; ret -", in: "1 2; 0 1 2; 0 1 2; 0 1 2; -", out: "0 1 2; 0 1 2; 0 1 2; 0 1 2; -"},
		example{text: "branch 0 b; a: in 1; b: out 1; branch 2 a; out 3; ret -", in: "0 1 2 3; 2 3; 1 2 3; 2 3; 3; -", out: "1 2 3; 1 2 3; 2 3; 2 3; -; -"},
	)
}

// Nodes that are not reachable from the Entry are answered like all others, and
// the Entry does not matter.
func TestP11_1Unreachable(t *testing.T) {
	check(t,
		example{text: "ret -; out 5; ret -", in: "-; 5; -", out: "-; -; -"},
		example{text: "jump b; a: out 5; b: out 6; in 5; out 7; ret -", in: "6 7; 5 6 7; 6 7; 7; 7; -", out: "6 7; 6 7; 7; 7; -; -"},
		example{text: "jump b; a: in 6; b: out 6; ret -", in: "6; -; 6; -", out: "6; 6; -; -"},
	)
	for _, entry := range []string{"a", "b", "c", "d"} {
		check(t, example{text: "graph entry=" + entry + "; a: in 0; b: add 1 0 2; c: out 1; d: ret -", in: "2; 0 2; 1; -", out: "0 2; 1; -; -"})
	}
}

// Cells, and what the head of a graph names, are no reads.
func TestP11_1Heads(t *testing.T) {
	check(t,
		example{text: "graph keep=1; nop; ret -", in: "-; -", out: "-; -"},
		example{text: "graph keep=0; in 0; set 0 1; get 0 1; ret -", in: "1; 1; -; -", out: "1; -; -; -"},
		example{text: "ret - | graph params=1,0,2 init=0,-,3 keep=3; nop; out 0; ret -", graph: 1, in: "0; 0; -", out: "0; -; -"},
		example{text: "ret - | graph params=0,1 result; ret 1", graph: 1, in: "1", out: "-"},
		example{text: "ret - | graph params=3 result; in 3; ret 3", graph: 1, in: "-; 3", out: "3; -"},
	)
}

// Each graph has its own places.
func TestP11_1Graphs(t *testing.T) {
	const text = "in 0; call 1 - 0 7; out 2; ret - | graph params=3,4; out 3; out 5; call 2 6; ret - | graph result; call 2 0; ret 8"
	check(t,
		example{text: text, graph: 0, in: "2 7; 0 2 7; 2; -", out: "0 2 7; 2; -; -"},
		example{text: text, graph: 1, in: "3 5; 5; -; -", out: "5; -; -; -"},
		example{text: text, graph: 2, in: "8; 8", out: "8; -"},
	)
}

// probes are nodes of each operation: what they read and write is told. Places 4
// and 5 are pointers; function 1 has four parameters, function 2 none, function
// 3 one and a result, function 4 none and a result.
var probes = []struct{ node, reads, writes string }{
	{"const 0 7", "", "0"},
	{"const 3 1", "", "3"},
	{"move 0 1", "1", "0"},
	{"move 1 0", "0", "1"},
	{"move 2 2", "2", "2"},
	{"move 4 5", "5", "4"},
	{"move 5 5", "5", "5"},
	{"add 0 1 2", "1 2", "0"},
	{"below 3 2 1", "1 2", "3"},
	{"div 1 1 2", "1 2", "1"},
	{"rem 2 1 2", "1 2", "2"},
	{"mul 0 3 3", "3", "0"},
	{"shl 3 3 3", "3", "3"},
	{"get 0 2", "", "0"},
	{"get 2 0", "", "2"},
	{"set 2 0", "0", ""},
	{"set 0 2", "2", ""},
	{"addr 4 1", "", "4"},
	{"addr 5 3", "", "5"},
	{"load 0 4", "4", "0"},
	{"load 3 5", "5", "3"},
	{"store 4 0", "0 4", ""},
	{"store 5 3", "3 5", ""},
	{"branch 0 behind", "0", ""},
	{"branch 3 behind", "3", ""},
	{"nop", "", ""},
	{"jump behind", "", ""},
	{"call 1 - 0 1 4 5", "0 1 4 5", ""},
	{"call 1 - 3 2 5 4", "2 3 4 5", ""},
	{"call 1 - 1 1 4 4", "1 4", ""},
	{"call 2 -", "", ""},
	{"call 3 - 2", "2", ""},
	{"call 3 0 2", "2", "0"},
	{"call 3 2 2", "2", "2"},
	{"call 4 3", "", "3"},
	{"call 4 0", "", "0"},
	{"call 4 -", "", ""},
	{"defer 1 3 2 5 4", "2 3 4 5", ""},
	{"defer 1 0 0 5 5", "0 5", ""},
	{"defer 2", "", ""},
	{"defer 3 1", "1", ""},
	{"defer 4", "", ""},
	{"recover 0 1", "", "0 1"},
	{"recover 3 0", "", "0 3"},
	{"in 0", "", "0"},
	{"in 3", "", "3"},
	{"out 0", "0", ""},
	{"out 3", "3", ""},
	{"panic 0", "0", "all"},
	{"panic 3", "3", "all"},
	{"exit 0", "0", "all"},
	{"exit 2", "2", "all"},
	{"ret -", "", "all"},
}

// probed is a program in which a node is the first one, and nodes that read
// nothing, or every place, and write none, are behind it.
func probed(node string, all bool) string {
	text := "graph places=6 ptrs=4,5; " + node + "; behind: "
	if all {
		text += "defer 1 0 1 4 5; defer 1 2 3 4 5; "
	}
	return text + "ret - | graph params=0,1,2,3 ptrs=2,3; ret - | ret - | graph params=0 result; ret 0 | graph result; ret 0"
}

func places(s string) []int {
	var list []int
	for _, word := range strings.Fields(s) {
		p, _ := strconv.Atoi(word)
		list = append(list, p)
	}
	return list
}

func checkProbe(t *testing.T, name string, g api.Graphs, reads, writes string, all bool) {
	t.Helper()
	var want, behind []int
	for p := range 6 {
		passes := all && writes != "all" && !slices.Contains(places(writes), p)
		if passes || slices.Contains(places(reads), p) {
			want = append(want, p)
		}
		if all && writes != "all" {
			behind = append(behind, p)
		}
	}
	if got := at(t, g, 0)[0]; !slices.Equal(got, want) {
		t.Errorf("%q, with %v behind it: live at it is %v; want %v", name, behind, got, want)
	}
	if got := after(t, g, 0)[0]; !slices.Equal(got, behind) {
		t.Errorf("%q: live after it is %v; want %v", name, got, behind)
	}
}

func TestP11_1Operations(t *testing.T) {
	for _, x := range probes {
		for _, all := range []bool{false, true} {
			checkProbe(t, x.node, graphs(t, probed(x.node, all)), x.reads, x.writes, all)
		}
	}
	for _, all := range []bool{false, true} {
		text := strings.Replace(probed("nop", all), "ret - | ret -", "ret - | graph places=6 result; ret 3", 1)
		if got := told(at(t, graphs(t, text), 2)); got != "3" {
			t.Errorf("a NRet of place 3: live at it is %s", got)
		}
	}
}

// unused are the fields that an operation does not use; F, Cell and By name no
// place.
func unused(n *api.Node) []*int {
	d, e, a, b, next, elsewhere := &n.D, &n.E, &n.A, &n.B, &n.Next, &n.Else
	switch n.Op {
	case api.NConst, api.NCellGet, api.NAddr, api.NCall, api.NIn:
		return []*int{e, a, b, elsewhere}
	case api.NMove, api.NLoad:
		return []*int{e, b, elsewhere}
	case api.NBin:
		return []*int{e, elsewhere}
	case api.NCellSet, api.NOut:
		return []*int{d, e, b, elsewhere}
	case api.NStore:
		return []*int{d, e, elsewhere}
	case api.NBranch:
		return []*int{d, e, b}
	case api.NNop, api.NDefer:
		return []*int{d, e, a, b, elsewhere}
	case api.NRecover:
		return []*int{a, b, elsewhere}
	}
	return []*int{d, e, b, next, elsewhere} // NPanic, NExit, NRet
}

func TestP11_1UnusedFields(t *testing.T) {
	for _, x := range probes {
		for _, all := range []bool{false, true} {
			for v := -2; v < 8; v++ {
				g := graphs(t, probed(x.node, all))
				n := &g.Funcs[0].Nodes[0]
				for _, field := range unused(n) {
					*field = v
				}
				if n.Op != api.NCall && n.Op != api.NDefer {
					n.Args = []int{v, 0, 1, 2, 3, 4, 5}
				}
				checkProbe(t, x.node+", where other fields have "+strconv.Itoa(v), g, x.reads, x.writes, all)
			}
		}
	}
}

// both calls, with what they answer in common.
func both(g api.Graphs, f int) [2]api.Errno {
	in, d := live.In(g, f)
	out, e := live.Out(g, f)
	if d != api.OK && in != nil || e != api.OK && out != nil {
		return [2]api.Errno{-1, -1}
	}
	return [2]api.Errno{d, e}
}

func checkErrors(t *testing.T, name string, g api.Graphs, f int, want api.Errno) {
	t.Helper()
	if got := both(g, f); got != [2]api.Errno{want, want} {
		t.Errorf("%s: In and Out of graph %d return %v; want %d (-1: and lists)", name, f, got, int(want))
	}
}

func TestP11_1ErrArg(t *testing.T) {
	for n := 1; n <= api.MaxFuncs; n++ {
		g := graphs(t, strings.Repeat("out 0; ret - | ", n-1)+"out 0; ret -")
		for _, f := range []int{math.MinInt, -1 << 32, -n, -2, -1, 0, n - 1, n, n + 1, 15, 16, 17, 1 << 32, math.MaxInt} {
			want := api.ErrArg
			if f >= 0 && f < n {
				want = api.OK
			}
			checkErrors(t, strconv.Itoa(n)+" graphs", g, f, want)
		}
	}
}

// faults are changes of a program of three graphs by which it is not valid, read
// free; each is made in each graph.
var faults = []struct {
	name   string
	change func(f *api.Graph)
}{
	{"no nodes", func(f *api.Graph) { f.Nodes = nil }},
	{"4097 nodes", func(f *api.Graph) { f.Nodes = slices.Repeat([]api.Node{{Op: api.NNop}}, 4097) }},
	{"1025 places", func(f *api.Graph) { f.Kinds = make([]api.Kind, 1025) }},
	{"a kind 2", func(f *api.Graph) { f.Kinds[23] = 2 }},
	{"65 cells", func(f *api.Graph) { f.Cells = 65 }},
	{"-1 cells", func(f *api.Graph) { f.Cells = -1 }},
	{"an Entry of -1", func(f *api.Graph) { f.Entry = -1 }},
	{"an Entry that does not exist", func(f *api.Graph) { f.Entry = 2 }},
	{"a Keep that does not exist", func(f *api.Graph) { f.Keep = 4 }},
	{"five parameters", func(f *api.Graph) { f.Params, f.Init = []int{0, 1, 2, 3, 4}, []int{-1, -1, -1, -1, -1} }},
	{"an Init of no parameter", func(f *api.Graph) { f.Init = append(f.Init, -1) }},
	{"an operation 0", func(f *api.Graph) { f.Nodes[0].Op = 0 }},
	{"an operation 19", func(f *api.Graph) { f.Nodes[0].Op = 19 }},
	{"a Next of -1", func(f *api.Graph) { f.Nodes[0].Next = -1 }},
	{"a Next that does not exist", func(f *api.Graph) { f.Nodes[0].Next = 2 }},
	{"a place -1", func(f *api.Graph) { f.Nodes[0].A = -1 }},
	{"a place that does not exist", func(f *api.Graph) { f.Nodes[0].A = 24 }},
	{"a place of another kind", func(f *api.Graph) { f.Kinds[7] = api.Ptr }},
}

func TestP11_1ErrNode(t *testing.T) {
	for _, x := range faults {
		for i := range 3 {
			g := graphs(t, "out 7; ret - | out 7; ret - | out 7; ret -")
			x.change(&g.Funcs[i])
			// It is named ahead of ErrArg.
			for _, f := range []int{math.MinInt, -1, 0, 1, 2, 3, math.MaxInt} {
				checkErrors(t, x.name+" in graph "+strconv.Itoa(i), g, f, api.ErrNode)
			}
		}
	}
	for _, g := range []api.Graphs{{}, {Funcs: []api.Graph{}}, {Funcs: make([]api.Graph, 1)}, graphs(t, "ret - | graph params=0; ret -")} {
		if len(g.Funcs) == 2 {
			g.Funcs[0], g.Funcs[1] = g.Funcs[1], g.Funcs[0] // the first one has a parameter
		}
		for f := -1; f < 3; f++ {
			checkErrors(t, "no program", g, f, api.ErrNode)
		}
	}
	for _, n := range []int{16, 17} {
		g := api.Graphs{Funcs: slices.Repeat(graphs(t, "out 0; ret -").Funcs, n)}
		want := []api.Errno{api.OK, api.ErrNode}[n-16]
		checkErrors(t, strconv.Itoa(n)+" graphs", g, 15, want)
	}
}

// Graphs are read free: kinds are checked, and places and arguments may be any.
func TestP11_1ReadFree(t *testing.T) {
	bound, ok := samples.Graphs("graph ptrs=3; move 0 3; out 0; ret -")
	if !ok || ir.Check(bound, true) != api.OK || ir.Check(bound, false) != api.ErrNode {
		t.Fatalf("layer 7 says %d, read bound", int(ir.Check(bound, true)))
	}
	checkErrors(t, "a program that is valid only if it is read bound", bound, 0, api.ErrNode)
	free := graphs(t, "graph places=3; call 1 1 2 0; out 1; ret - | graph params=5,3 result; ret 5")
	if ir.Check(free, true) == api.OK {
		t.Fatal("it is valid, read bound, too")
	}
	if got := told(at(t, free, 0)); got != "0 2; 1; -" {
		t.Errorf("%v: live at the nodes is %s", free, got)
	}
}

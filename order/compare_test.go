package order_test

import (
	"slices"
	"testing"

	"windlass/api"
	"windlass/build"
	"windlass/ir"
	"windlass/live"
	"windlass/order"
	"windlass/samples"
)

// compare holds both calls against the second reading, for all graphs of a
// program.
func compare(t testing.TB, g api.Graphs) {
	t.Helper()
	for i, f := range g.Funcs {
		line := lineReading(f)
		if got := lineOf(t, g, i); !slices.Equal(got, line) {
			t.Fatalf("graph %d of %v: the line is %v; the second reading says %v", i, g, got, line)
		}
		want := spansReading(t, g, i, line)
		if got := spansOf(t, g, i); !slices.Equal(got, want) {
			t.Fatalf("graph %d of %v: the intervals are %s; the second reading says %s", i, g, toldSpans(got), toldSpans(want))
		}
	}
}

// TestP12_1AllWays: all graphs of four nodes, by what they continue with, with
// each Entry.
func TestP12_1AllWays(t *testing.T) {
	nodes := []api.Node{{Op: api.NRet, A: -1}}
	for next := range 4 {
		nodes = append(nodes, api.Node{Op: api.NNop, Next: next, Else: 3 - next})
		for other := range 4 {
			nodes = append(nodes, api.Node{Op: api.NBranch, Next: next, Else: other})
		}
	}
	f := api.Graph{Kinds: make([]api.Kind, 1), Keep: -1, Nodes: make([]api.Node, 4)}
	g := api.Graphs{Funcs: []api.Graph{f}}
	n := 0
	for _, f.Nodes[0] = range nodes {
		for _, f.Nodes[1] = range nodes {
			for _, f.Nodes[2] = range nodes {
				for _, f.Nodes[3] = range nodes {
					n++
					g.Funcs[0].Entry = n % 5 % 4 // no divisor of how many nodes there are
					if got, want := lineOf(t, g, 0), lineReading(g.Funcs[0]); !slices.Equal(got, want) {
						t.Fatalf("%v: the line is %v; the second reading says %v", g, got, want)
					}
				}
			}
		}
	}
}

// TestP12_1AllSmallGraphs: all graphs of three nodes for two places, by what the
// nodes read, write and continue with. Function 1 has a parameter and a result.
func TestP12_1AllSmallGraphs(t *testing.T) {
	var nodes []api.Node
	for next := range 3 {
		for p := range 2 {
			nodes = append(nodes,
				api.Node{Op: api.NConst, D: p, Next: next},
				api.Node{Op: api.NOut, A: p, Next: next},
				api.Node{Op: api.NMove, D: p, A: 1 - p, Next: next},
				api.Node{Op: api.NCall, F: 1, D: p, Args: []int{p}, Next: next},
				api.Node{Op: api.NCall, F: 1, D: p, Args: []int{1 - p}, Next: next},
				api.Node{Op: api.NDefer, F: 1, D: p, Args: []int{1 - p}, Next: next},
			)
			for i := range 3 {
				nodes = append(nodes, api.Node{Op: api.NBranch, A: p, Next: next, Else: i})
			}
		}
		nodes = append(nodes, api.Node{Op: api.NCall, F: 0, D: -1, Next: next}, api.Node{Op: api.NRecover, D: 0, E: 1, Next: next})
	}
	nodes = append(nodes, api.Node{Op: api.NRet, A: -1})
	f := api.Graph{Kinds: make([]api.Kind, 2), Keep: -1, Nodes: make([]api.Node, 3)}
	called := api.Graph{Params: []int{1}, Kinds: make([]api.Kind, 2), Init: []int{-1}, Result: true, Keep: -1, Nodes: []api.Node{{Op: api.NRet}}}
	g := api.Graphs{Funcs: []api.Graph{f, called}}
	n := 0
	for _, f.Nodes[0] = range nodes {
		for _, f.Nodes[1] = range nodes {
			for _, f.Nodes[2] = range nodes {
				n++
				g.Funcs[0].Entry = n % 4 % 3
				compare(t, g)
			}
		}
	}
}

// TestP12_1ManyGraphs: made-up ones, in an order as programs have, or not.
func TestP12_1ManyGraphs(t *testing.T) {
	m := samples.New(31)
	held := 0
	for range 5000 {
		g := m.Graphs(false)
		compare(t, g)
		compare(t, m.Tangled())
		for _, s := range spansOf(t, g, 0) {
			if s.Held {
				held++
			}
		}
	}
	if held < 1000 {
		t.Errorf("%d places are held over a call", held)
	}
}

// built are the graphs of a program.
func built(t testing.TB, p api.Program) api.Graphs {
	t.Helper()
	g, e := build.Build(p)
	if e != api.OK {
		t.Fatalf("layer 9 returns %d for %s", int(e), samples.Printed(p))
	}
	return g
}

// TestP12_1BuiltGraphs: what layer 9 makes of programs.
func TestP12_1BuiltGraphs(t *testing.T) {
	for _, x := range samples.All() {
		p, _ := x.Program()
		compare(t, built(t, p))
	}
	m := samples.New(32)
	for range 300 {
		compare(t, built(t, m.Program()))
	}
}

// TestP12_1SparseGraphs: more nodes and places, of which each node uses few.
func TestP12_1SparseGraphs(t *testing.T) {
	m := samples.New(33)
	for _, size := range []struct{ nodes, places, rounds int }{{10, 4, 3000}, {20, 10, 2000}, {40, 64, 500}, {120, 30, 200}, {10, 1024, 20}} {
		for range size.rounds {
			g := m.Sparse(size.nodes, size.places)
			g.Funcs[0].Entry = m.Roll(size.nodes)
			compare(t, g)
		}
	}
}

// meet holds that places that are live at one reachable node have intervals with
// a position in common, for all graphs of a program; it counts the pairs of them.
func meet(t testing.TB, g api.Graphs) int {
	t.Helper()
	pairs := 0
	for f, graph := range g.Funcs {
		at, _ := live.In(g, f)
		of := map[int]api.Interval{}
		for _, s := range spansOf(t, g, f) {
			of[s.Place] = s
		}
		for _, node := range lineReading(graph) {
			for _, p := range at[node] {
				for _, q := range at[node] {
					a, okA := of[p]
					b, okB := of[q]
					if !okA || !okB || max(a.From, b.From) > min(a.To, b.To) {
						t.Fatalf("graph %d of %v: places %d and %d are live at node %d; their intervals are %v, %v and %v, %v", f, g, p, q, node, a, okA, b, okB)
					}
					if p < q {
						pairs++
					}
				}
			}
		}
	}
	return pairs
}

func TestP12_2(t *testing.T) {
	m := samples.New(37)
	pairs := meet(t, built(t, samples.Great()))
	for range 2000 {
		pairs += meet(t, m.Graphs(false)) + meet(t, m.Tangled()) + meet(t, m.Sparse(30, 20))
	}
	for range 100 {
		pairs += meet(t, built(t, m.Program()))
	}
	if pairs < 100000 {
		t.Errorf("%d pairs of places are live at one node", pairs)
	}
}

// tryAny holds both calls against layer 7, the second reading, and P12.2, for any
// graphs.
func tryAny(t testing.TB, g api.Graphs) api.Errno {
	t.Helper()
	want := ir.Check(g, false)
	if want == api.OK {
		compare(t, g)
		meet(t, g)
		return want
	}
	for f := -1; f <= len(g.Funcs); f++ {
		if got := both(g, f); got != [2]api.Errno{want, want} {
			t.Fatalf("graph %d of %v: Line and Spans return %v; want %d", f, g, got, int(want))
		}
	}
	return want
}

// TestP12_1ManySpoiltGraphs: the calls answer what layer 7 does, or lists.
func TestP12_1ManySpoiltGraphs(t *testing.T) {
	m := samples.New(34)
	seen := map[api.Errno]int{}
	for range 4000 {
		g := m.Tangled()
		m.Spoil(&g)
		seen[tryAny(t, g)]++
	}
	if seen[api.OK] < 500 || seen[api.ErrNode] < 500 {
		t.Errorf("too few: %v", seen)
	}
}

// TestP12_1Memory: results are new memory, and arguments stay as they are, with
// what lies behind them.
func TestP12_1Memory(t *testing.T) {
	m := samples.New(35)
	for range 300 {
		g := samples.RoomyGraphs(m.Tangled())
		whole := samples.WhollyGraphs(g)
		for f := range g.Funcs {
			line, spans := lineOf(t, g, f), spansOf(t, g, f)
			wantLine, wantSpans := toldLine(line), toldSpans(spans)
			spoilAll(lineOf(t, g, f), -9)
			spoilAll(spansOf(t, g, f), api.Interval{Place: -9})
			if toldLine(line) != wantLine || toldSpans(spans) != wantSpans {
				t.Fatalf("graph %d of %v: two results share memory", f, g)
			}
			spoilAll(line, -9)
			if got := toldLine(lineOf(t, g, f)); got != wantLine {
				t.Fatalf("graph %d of %v: the line becomes %s", f, g, got)
			}
		}
		if !ir.Same(whole, samples.WhollyGraphs(g)) {
			t.Fatalf("%v: an argument is changed", whole)
		}
	}
}

func spoilAll[T any](list []T, mark T) {
	for i := range list[:cap(list)] {
		list[:cap(list)][i] = mark
	}
}

// TestP12_1Repeated: what was asked before does not matter, nor does what lies in
// the other graphs.
func TestP12_1Repeated(t *testing.T) {
	m := samples.New(36)
	for range 300 {
		g, h := m.Tangled(), m.Tangled()
		line, spans := toldLine(lineOf(t, g, 0)), toldSpans(spansOf(t, g, 0))
		order.Line(h, 0)
		order.Spans(h, 1)
		order.Spans(h, 99)
		other := ir.Copy(g)
		for i := range other.Funcs[1:] {
			f := &other.Funcs[1+i]
			f.Nodes = append(f.Nodes, api.Node{Op: api.NNop, Next: f.Entry})
			f.Entry = len(f.Nodes) - 1
		}
		for _, g := range []api.Graphs{g, ir.Copy(g), other} {
			if a, b := toldLine(lineOf(t, g, 0)), toldSpans(spansOf(t, g, 0)); a != line || b != spans {
				t.Fatalf("%v: the line is %s, then %s; the intervals are %s, then %s", g, line, a, spans, b)
			}
		}
	}
}

func FuzzOrder(f *testing.F) {
	for i := range uint64(40) {
		f.Add(i, uint8(i))
	}
	f.Fuzz(func(t *testing.T, seed uint64, changes uint8) {
		m := samples.New(seed)
		g := m.Graphs(false)
		switch changes % 3 {
		case 1:
			g = m.Tangled()
		case 2:
			g = m.Sparse(1+m.Roll(30), 2+m.Roll(20))
		}
		for range changes / 3 % 4 {
			m.Spoil(&g)
		}
		tryAny(t, g)
	})
}

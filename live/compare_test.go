package live_test

import (
	"slices"
	"testing"

	"windlass/api"
	"windlass/build"
	"windlass/ir"
	"windlass/live"
	"windlass/samples"
)

func sameLists(a, b [][]int) bool {
	return slices.EqualFunc(a, b, slices.Equal[[]int])
}

// compare holds both calls against the second reading, for all graphs of a program.
func compare(t testing.TB, g api.Graphs) {
	t.Helper()
	for i, f := range g.Funcs {
		in, out := reading(f)
		if got := at(t, g, i); !sameLists(got, in) {
			t.Fatalf("graph %d of %v: live at the nodes is %s; the second reading says %s", i, g, told(got), told(in))
		}
		if got := after(t, g, i); !sameLists(got, out) {
			t.Fatalf("graph %d of %v: live after the nodes is %s; the second reading says %s", i, g, told(got), told(out))
		}
	}
}

// TestP11_1AllSmallGraphs: all graphs of three nodes for two places, by what the
// nodes read, write and continue with.
func TestP11_1AllSmallGraphs(t *testing.T) {
	var nodes []api.Node
	for next := range 3 {
		for p := range 2 {
			nodes = append(nodes,
				api.Node{Op: api.NConst, D: p, Next: next},
				api.Node{Op: api.NOut, A: p, Next: next},
				api.Node{Op: api.NMove, D: p, A: 1 - p, Next: next},
				api.Node{Op: api.NMove, D: p, A: p, Next: next},
			)
			for i := range 3 {
				nodes = append(nodes, api.Node{Op: api.NBranch, A: p, Next: next, Else: i})
			}
		}
		nodes = append(nodes, api.Node{Op: api.NNop, Next: next}, api.Node{Op: api.NRecover, D: 0, E: 1, Next: next})
	}
	nodes = append(nodes, api.Node{Op: api.NRet, A: -1})
	f := api.Graph{Kinds: make([]api.Kind, 2), Keep: -1, Nodes: make([]api.Node, 3)}
	g := api.Graphs{Funcs: []api.Graph{f}}
	for _, f.Nodes[0] = range nodes {
		for _, f.Nodes[1] = range nodes {
			for _, f.Nodes[2] = range nodes {
				compare(t, g)
			}
		}
	}
}

// TestP11_1ManyGraphs: made-up ones, in an order as programs have, or not.
func TestP11_1ManyGraphs(t *testing.T) {
	m := samples.New(11)
	for range 10000 {
		compare(t, m.Graphs(false))
		compare(t, m.Tangled())
	}
}

// built are the graphs of a program.
func built(t testing.TB, p api.Program) api.Graphs {
	t.Helper()
	g, e := build.Build(p)
	if e != api.OK {
		t.Fatalf("layer 9 returns %d for %s", int(e), samples.Printed(p))
	}
	return g
}

// TestP11_1BuiltGraphs: what layer 9 makes of programs.
func TestP11_1BuiltGraphs(t *testing.T) {
	var list []api.Program
	for _, x := range samples.All() {
		p, _ := x.Program()
		list = append(list, p)
	}
	m := samples.New(12)
	for range 500 {
		list = append(list, m.Program())
	}
	for _, p := range list {
		compare(t, built(t, p))
	}
}

// TestP11_1SparseGraphs: more nodes and places, of which each node uses few.
func TestP11_1SparseGraphs(t *testing.T) {
	m := samples.New(15)
	for _, size := range []struct{ nodes, places, rounds int }{{40, 63, 20}, {40, 64, 20}, {40, 65, 20}, {70, 130, 10}, {10, 1024, 5}} {
		for range size.rounds {
			compare(t, m.Sparse(size.nodes, size.places))
		}
	}
}

// tryAny holds both calls against layer 7 and the second reading, for any graphs.
func tryAny(t testing.TB, g api.Graphs) api.Errno {
	t.Helper()
	want := ir.Check(g, false)
	if want == api.OK {
		compare(t, g)
		return want
	}
	for f := -1; f <= len(g.Funcs); f++ {
		if got := both(g, f); got != [2]api.Errno{want, want} {
			t.Fatalf("graph %d of %v: In and Out return %v; want %d", f, g, got, int(want))
		}
	}
	return want
}

// TestP11_1ManySpoiltGraphs: the calls answer what layer 7 does, or lists.
func TestP11_1ManySpoiltGraphs(t *testing.T) {
	m := samples.New(13)
	seen := map[api.Errno]int{}
	for range 4000 {
		g := m.Tangled()
		m.Spoil(&g)
		seen[tryAny(t, g)]++
	}
	if seen[api.OK] < 500 || seen[api.ErrNode] < 500 {
		t.Errorf("too few: %v", seen)
	}
}

// TestP11_1Memory: results are new memory, and arguments stay as they are, with
// what lies behind them.
func TestP11_1Memory(t *testing.T) {
	m := samples.New(14)
	for range 300 {
		g := samples.RoomyGraphs(m.Tangled())
		whole := samples.WhollyGraphs(g)
		for f := range g.Funcs {
			for _, call := range []func(api.Graphs, int) ([][]int, api.Errno){live.In, live.Out} {
				first, _ := call(g, f)
				second, _ := call(g, f)
				want := told(first)
				spoilAll(second)
				if told(first) != want {
					t.Fatalf("graph %d of %v: two results share memory", f, g)
				}
				checkApart(t, first)
			}
		}
		if !ir.Same(whole, samples.WhollyGraphs(g)) {
			t.Fatalf("%v: an argument is changed", whole)
		}
	}
}

func spoilAll(lists [][]int) {
	for _, list := range lists[:cap(lists)] {
		for i := range list[:cap(list)] {
			list[:cap(list)][i] = -9
		}
	}
}

// checkApart holds that no two lists share memory, nor what lies behind them.
func checkApart(t *testing.T, lists [][]int) {
	t.Helper()
	for i, list := range lists {
		for k := range list[:cap(list)] {
			list[:cap(list)][k] = i
		}
	}
	for i, list := range lists {
		for _, x := range list[:cap(list)] {
			if x != i {
				t.Fatalf("the lists of nodes %d and %d share memory", i, x)
			}
		}
	}
}

func FuzzLive(f *testing.F) {
	for i := range uint64(40) {
		f.Add(i, uint8(i))
	}
	f.Fuzz(func(t *testing.T, seed uint64, changes uint8) {
		m := samples.New(seed)
		g := m.Graphs(false)
		if changes%2 == 1 {
			g = m.Tangled()
		}
		for range changes / 2 % 4 {
			m.Spoil(&g)
		}
		if tryAny(t, g) == api.OK {
			holds(t, "fuzzed graphs", m, g, m.Tape(), m.Roll(200))
		}
	})
}

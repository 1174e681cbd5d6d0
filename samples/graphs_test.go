package samples_test

import (
	"slices"
	"testing"

	"windlass/api"
	"windlass/ir"
	"windlass/order"
	"windlass/samples"
)

func TestGraphTexts(t *testing.T) {
	g, ok := samples.Graphs("graph places=20 ptrs=1,3 cells=2 params=2,1 init=0,- result keep=1 entry=b; const 0 18446744073709551615; a: move 1 3; " +
		"below 0 2 4; get 0 1; set 1 0; addr 3 1; load 0 3; store 3 0; branch 0 a; b: nop; call 0 4 5 1; call 1 -; defer 0 5 1; jump b; " +
		"panic 2; recover 4 0; in 5; tell 9; exit 6; ret 0 | graph; ret -;")
	want := api.Graphs{Funcs: []api.Graph{
		{Params: []int{2, 1}, Kinds: make([]api.Kind, 20), Cells: 2, Init: []int{0, -1}, Result: true, Keep: 1, Entry: 9, Nodes: []api.Node{
			{Op: api.NConst, D: 0, Imm: 1<<64 - 1, Next: 1},
			{Op: api.NMove, D: 1, A: 3, Next: 2},
			{Op: api.NBin, By: api.Below, D: 0, A: 2, B: 4, Next: 3},
			{Op: api.NCellGet, D: 0, Cell: 1, Next: 4},
			{Op: api.NCellSet, A: 0, Cell: 1, Next: 5},
			{Op: api.NAddr, D: 3, Cell: 1, Next: 6},
			{Op: api.NLoad, D: 0, A: 3, Next: 7},
			{Op: api.NStore, A: 3, B: 0, Next: 8},
			{Op: api.NBranch, A: 0, Next: 9, Else: 1},
			{Op: api.NNop, Next: 10},
			{Op: api.NCall, F: 0, D: 4, Args: []int{5, 1}, Next: 11},
			{Op: api.NCall, F: 1, D: -1, Next: 12},
			{Op: api.NDefer, F: 0, Args: []int{5, 1}, Next: 13},
			{Op: api.NNop, Next: 9},
			{Op: api.NPanic, A: 2, Next: 15},
			{Op: api.NRecover, D: 4, E: 0, Next: 16},
			{Op: api.NIn, D: 5, Next: 17},
			{Op: api.NConst, D: 15, Imm: 9, Next: 18},
			{Op: api.NOut, A: 15, Next: 19},
			{Op: api.NExit, A: 6, Next: 20},
			{Op: api.NRet, A: 0, Next: 21},
		}},
		{Kinds: make([]api.Kind, 24), Cells: 4, Keep: -1, Nodes: []api.Node{{Op: api.NRet, A: -1, Next: 1}}},
	}}
	want.Funcs[0].Kinds[1], want.Funcs[0].Kinds[3] = api.Ptr, api.Ptr
	if !ok || !ir.Same(g, want) {
		t.Errorf("%v, %v; want %v", ok, g, want)
	}
}

func TestNoGraphTexts(t *testing.T) {
	for _, text := range []string{
		"out", "out 1 2", "out x", "out 1.", "nothing 1", "bin 1 2 3", "add 1 2", "add 1 2 3 4", "const 1 -1", "call 1", "call 1 2 x", "defer",
		"a:", "jump a", "branch 1 a", "branch 1", "jump", "a: ret - | jump a", "tell", "tell 1 2", "tell x", "nop 1",
		"graph places", "graph places=x", "graph ptrs=24", "graph ptrs=-", "graph entry=a; ret -", "graph more", "graph params=a", "ret -; graph cells=3", "graph places=-5 ptrs=0",
	} {
		if g, ok := samples.Graphs(text); ok || len(g.Funcs) > 0 {
			t.Errorf("%q is %v", text, g)
		}
	}
}

func TestMadeGraphs(t *testing.T) {
	a, b, c := samples.New(1), samples.New(1), samples.New(2)
	for i := range 1000 {
		bound := i%2 == 1
		g, h := a.Graphs(bound), c.Graphs(bound)
		if ir.Check(g, bound) != api.OK || ir.Check(h, bound) != api.OK {
			t.Fatalf("read bound: %v; layer 7 says %d of %v and %d of %v", bound, int(ir.Check(g, bound)), g, int(ir.Check(h, bound)), h)
		}
		if !ir.Same(g, b.Graphs(bound)) || ir.Same(g, h) {
			t.Fatalf("one seed makes others, or two seeds make the same: %v", g)
		}
		if g := a.Tangled(); ir.Check(g, false) != api.OK || !ir.Same(g, b.Tangled()) {
			t.Fatalf("tangled: layer 7 says %d of %v", int(ir.Check(g, false)), g)
		}
	}
}

// TestSpoilt: one number is changed, by which some graphs are valid no more.
func TestSpoilt(t *testing.T) {
	m := samples.New(3)
	same, valid := 0, 0
	for range 1000 {
		g := m.Graphs(false)
		h := ir.Copy(g)
		m.Spoil(&h)
		if ir.Same(g, h) {
			same++
		}
		if ir.Check(h, false) == api.OK {
			valid++
		}
	}
	if same > 200 || valid < 100 || valid > 900 {
		t.Errorf("of 1000 graphs %d are the same, %d are valid", same, valid)
	}
}

// TestAnyGraphs: some are valid, some are not, and one seed makes the same.
func TestAnyGraphs(t *testing.T) {
	valid := 0
	for i := range 200 {
		g, h := samples.New(uint64(i)).Any(uint8(i)), samples.New(uint64(i)).Any(uint8(i))
		if !ir.Same(g, h) {
			t.Fatalf("one seed makes %v, and %v", g, h)
		}
		if ir.Check(g, false) == api.OK {
			valid++
		}
	}
	if valid < 100 || valid > 180 {
		t.Errorf("of 200 %d are valid", valid)
	}
}

func TestWrongGraphs(t *testing.T) {
	list := samples.AllWrongGraphs()
	bound := 0
	for _, x := range list {
		if ir.Check(x.Graphs, false) != api.ErrNode {
			t.Errorf("%s: layer 7 says they are valid", x.Name)
		}
		if ir.Check(x.Graphs, true) == api.OK {
			bound++
		}
	}
	if len(list) < 60 || bound == 0 {
		t.Errorf("there are %d, of which %d are valid, read bound", len(list), bound)
	}
}

func TestAsks(t *testing.T) {
	seen := map[api.Errno]int{}
	for _, x := range samples.Asks() {
		seen[x.Want]++
		if e := ir.Check(x.Graphs, false); (e == api.ErrNode) != (x.Want == api.ErrNode) || x.Want == api.OK && x.Graph >= len(x.Graphs.Funcs) {
			t.Errorf("%s, graph %d: layer 7 says %d", x.Name, x.Graph, int(e))
		}
	}
	if seen[api.OK] < 30 || seen[api.ErrArg] < 100 || seen[api.ErrNode] < 400 {
		t.Errorf("too few: %v", seen)
	}
}

// TestProbes: there are some for each operation, and what is told of them is what
// layer 7 says, whatever is in the fields that are not used.
func TestProbes(t *testing.T) {
	seen := map[api.NodeOp]int{}
	for _, x := range samples.Probes() {
		for _, all := range []bool{false, true} {
			g, ok := samples.Graphs(x.Text(all))
			if !ok || ir.Check(g, false) != api.OK {
				t.Errorf("%q is none: layer 7 says %d", x.Text(all), int(ir.Check(g, false)))
				continue
			}
			n := &g.Funcs[0].Nodes[0]
			seen[n.Op]++
			for v := -3; v < 9; v++ {
				if !slices.Equal(sorted(ir.Reads(*n)), x.Reads) || !slices.Equal(sorted(ir.Writes(*n)), x.Writes) || (len(ir.Next(*n)) == 0) != x.Ends {
					t.Errorf("%q, with %d: layer 7 says it reads %v, writes %v, and continues with %v", x.Node, v, ir.Reads(*n), ir.Writes(*n), ir.Next(*n))
				}
				samples.FillUnused(n, v)
			}
		}
	}
	for op := api.NConst; op <= api.NExit; op++ {
		if seen[op] == 0 {
			t.Errorf("there is none for operation %d", op)
		}
	}
}

func sorted(list []int) []int {
	slices.Sort(list)
	return list
}

func TestGreatGraphs(t *testing.T) {
	g := samples.GreatGraphs(func(i int) api.Node { return api.Node{Op: api.NOut, A: i % 1024, Next: 4095 - i} })
	f := g.Funcs[15]
	if ir.Check(g, false) != api.OK || len(g.Funcs) != 16 || len(f.Nodes) != 4096 || len(f.Kinds) != 1024 || f.Nodes[4000].Next != 95 {
		t.Errorf("layer 7 says %d", int(ir.Check(g, false)))
	}
}

func TestSparseGraphs(t *testing.T) {
	a, b := samples.New(4), samples.New(4)
	for i := range 200 {
		nodes, places := 1+i%70, 2+i%130
		g := a.Sparse(nodes, places)
		f := g.Funcs[0]
		if ir.Check(g, false) != api.OK || len(f.Nodes) != nodes || len(f.Kinds) != places || !ir.Same(g, b.Sparse(nodes, places)) {
			t.Fatalf("%d nodes and %d places: layer 7 says %d of %v", nodes, places, int(ir.Check(g, false)), g)
		}
	}
}

// most of the intervals have one position in common; held reports whether a
// pointer is held over a call.
func crowding(f api.Graph, spans []api.Interval) (most int, held bool) {
	for position := range f.Nodes {
		n := 0
		for _, s := range spans {
			if s.From <= position && position <= s.To {
				n++
			}
			held = held || s.Held && f.Kinds[s.Place] == api.Ptr
		}
		most = max(most, n)
	}
	return most, held
}

// TestCrowdedGraphs: they are as they are told to be, and mostly as crowded as
// they may be.
func TestCrowdedGraphs(t *testing.T) {
	a, b := samples.New(5), samples.New(5)
	full, pointers, held := 0, 0, 0
	for i := range 900 {
		of := samples.Crowd{Nodes: 20 + i%81, Width: 1 + i%20, Pointers: i%3 > 0, Held: i%3 > 1}
		g := a.Crowded(of)
		f := g.Funcs[0]
		spans, e := order.Spans(g, 0)
		if e != api.OK || len(f.Nodes) < of.Nodes || !ir.Same(g, b.Crowded(of)) {
			t.Fatalf("%v: layer 12 says %d of %v", of, int(e), g)
		}
		most, isHeld := crowding(f, spans)
		if most > of.Width || isHeld && !of.Held || slices.Contains(f.Kinds, api.Ptr) && !of.Pointers {
			t.Fatalf("%v: %d places are in use at one node, a pointer is held: %v; %v", of, most, isHeld, g)
		}
		if most == of.Width {
			full++
		}
		if slices.Contains(f.Kinds, api.Ptr) {
			pointers++
		}
		if isHeld {
			held++
		}
	}
	if full < 600 || pointers < 500 || held < 200 {
		t.Errorf("%d are full, %d have pointers, %d hold some", full, pointers, held)
	}
}

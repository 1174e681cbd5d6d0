package live_test

import (
	"slices"
	"testing"

	"windlass/api"
	"windlass/ir"
	"windlass/irun"
	"windlass/samples"
	"windlass/trace"
)

// changer changes words in places: it adds nodes to one graph that write others
// there.
type changer struct {
	*samples.Maker
	f *api.Graph
}

// other node continues with a node, and writes what comes to a place.
func (c changer) other(place, next int) api.Node {
	f := c.f
	from := c.Roll(len(f.Kinds))
	switch isNumber := f.Kinds[place] == api.Num; {
	case c.Roll(4) == 0 && f.Kinds[from] == f.Kinds[place]:
		return api.Node{Op: api.NMove, D: place, A: from, Next: next}
	case isNumber && c.Roll(4) == 0:
		return api.Node{Op: api.NCellGet, D: place, Cell: c.Roll(f.Cells), Next: next}
	case isNumber:
		return api.Node{Op: api.NConst, D: place, Imm: c.Word() >> c.Roll(64), Next: next}
	}
	return api.Node{Op: api.NAddr, D: place, Cell: c.Roll(f.Cells), Next: next}
}

// ahead of a node words in places are changed; it answers where that begins.
func (c changer) ahead(node int, places []int) int {
	for _, p := range places {
		if len(c.f.Nodes) < api.MaxNodes {
			c.f.Nodes = append(c.f.Nodes, c.other(p, node))
			node = len(c.f.Nodes) - 1
		}
	}
	return node
}

// some of the places that a list does not have, all if one in is 1.
func (c changer) some(list []int, in int) []int {
	var out []int
	for p := range c.f.Kinds {
		if !slices.Contains(list, p) && c.Roll(in) == 0 {
			out = append(out, p)
		}
	}
	return out
}

// eachWay on from the first nodes is led to where it says.
func (c changer) eachWay(nodes int, to func(from, next int) int) {
	for i := range nodes {
		n := c.f.Nodes[i]
		ways := ir.Next(n)
		if len(ways) > 0 {
			n.Next = to(i, n.Next)
		}
		if n.Op == api.NBranch {
			n.Else = to(i, n.Else)
		}
		c.f.Nodes[i] = n
	}
}

// changedAt is a program in which the words in some places that are not live at
// a node are changed ahead of it.
func changedAt(t testing.TB, m *samples.Maker, g api.Graphs, in int) api.Graphs {
	t.Helper()
	return changed(g, m, func(c changer, f int) {
		lists := at(t, g, f)
		begins := make([]int, len(lists))
		for i, list := range lists {
			begins[i] = c.ahead(i, c.some(list, in))
		}
		c.f.Entry = begins[c.f.Entry]
		c.eachWay(len(lists), func(_, next int) int { return begins[next] })
	})
}

// changedAfter is a program in which the words in some places that are not live
// after a node are changed behind it.
func changedAfter(t testing.TB, m *samples.Maker, g api.Graphs, in int) api.Graphs {
	t.Helper()
	return changed(g, m, func(c changer, f int) {
		lists := after(t, g, f)
		c.eachWay(len(lists), func(from, next int) int { return c.ahead(next, c.some(lists[from], in)) })
	})
}

// changed graphs. Each one has a cell more, that pointers may be made to.
func changed(g api.Graphs, m *samples.Maker, change func(c changer, f int)) api.Graphs {
	g = ir.Copy(g)
	for i := range g.Funcs {
		f := &g.Funcs[i]
		f.Cells = min(f.Cells+1, api.MaxCells)
		change(changer{m, f}, i)
	}
	return g
}

func run(t testing.TB, g api.Graphs, tape []uint64, fuel int) api.Result {
	t.Helper()
	r, e := irun.Run(g, false, tape, fuel)
	if e != api.OK {
		t.Fatalf("layer 8 returns %d for %v with fuel %d", int(e), g, fuel)
	}
	return r
}

func printed(r api.Result) string { return trace.Print(r.Events, r.End) }

// agree reports whether the run of a program with fuel and that of a changed one
// are the same, as far as they go.
func agree(t testing.TB, g, c api.Graphs, tape []uint64, fuel int) (api.Result, bool) {
	t.Helper()
	places := 0
	for _, f := range g.Funcs {
		places = max(places, len(f.Kinds))
	}
	a := run(t, g, tape, fuel)
	b := run(t, c, tape, min((fuel+1)*(places+1), api.MaxFuel))
	if trace.Ended(a.End) {
		return a, printed(a) == printed(b)
	}
	short := run(t, c, tape, fuel)
	return a, trace.Prefix(a.Events, b.Events) && trace.Prefix(short.Events, a.Events) && !trace.Ended(short.End)
}

// holds a program against itself with words changed that are not live: all of
// them, or some.
func holds(t testing.TB, name string, m *samples.Maker, g api.Graphs, tape []uint64, fuel int) api.Result {
	t.Helper()
	var r api.Result
	for _, in := range []int{1, 2, 5} {
		for i, c := range []api.Graphs{changedAt(t, m, g, in), changedAfter(t, m, g, in)} {
			var same bool
			if r, same = agree(t, g, c, tape, fuel); !same {
				t.Fatalf("%s, %v, with %v and fuel %d: %s; with words changed that are not live %s nodes: %v", name, g, tape, fuel, printed(r), []string{"at", "after"}[i], c)
			}
		}
	}
	return r
}

// texts of graphs with all that frames, panics and pointers do to places.
var texts = []string{
	"const 0 7; out 0; ret -",
	"in 0; in 1; add 2 0 1; out 2; move 3 2; out 3; branch 0 a; out 1; ret -; a: out 3; quit 5",
	// What is live over a call, in both frames, and what the call writes.
	"const 0 1; const 1 2; call 1 2 0 1; out 1; out 2; call 1 0 1 1; out 0; ret - | graph params=5,6 result; call 2 1 5; add 5 5 6; out 1; ret 5 | graph params=0 result; const 1 40; add 0 0 1; ret 0",
	"graph ptrs=20,21; in 0; addr 20 1; addr 21 2; call 1 - 20 0; call 1 - 21 0; load 1 20; load 2 21; out 1; out 2; ret - | graph params=3,4 ptrs=3,5; move 5 3; store 5 4; load 0 3; out 0; ret -",
	// Frames down and up.
	"in 0; call 1 1 0; out 1; ret - | graph params=0 result; branch 0 end; const 1 1; sub 2 0 1; call 1 3 2; add 0 0 3; ret 0; end: ret 0",
	// Arguments of a deferred call are what they were.
	"const 0 5; defer 1 0; const 0 6; defer 1 0; const 0 7; ret - | graph params=2; out 2; ret -",
	"graph ptrs=9; addr 9 0; defer 1 9; const 3 8; set 0 3; ret - | graph params=0 ptrs=0; load 1 0; out 1; ret -",
	// Panics, with and without a recover; what is kept is a cell.
	"call 1 0; out 0; ret - | graph result keep=2; const 5 9; set 2 5; defer 2; div 6 5 7; out 6; ret 6 | recover 1 2; out 1; out 2; ret -",
	"defer 1; const 0 3; panic 0 | call 2 -; ret - | recover 1 2; out 2; ret -",
	"defer 1; const 0 3; panic 0 | defer 2; const 0 4; panic 0 | recover 1 2; out 1; out 2; ret -",
	"graph ptrs=1; load 0 1; ret -",
	"graph ptrs=1; defer 1; store 1 0; ret - | recover 4 5; out 4; out 5; ret -",
	// Loops.
	"in 0; const 1 0; a: branch 0 b; add 1 1 0; const 2 1; sub 0 0 2; jump a; b: out 1; ret -",
	"in 0; a: in 1; b: branch 0 c; const 2 1; sub 0 0 2; branch 1 b; out 0; jump a; c: out 1; ret -",
	"a: in 0; out 0; jump a",
	"a: nop; jump a; out 0; ret -",
}

func TestP11_2Examples(t *testing.T) {
	m := samples.New(21)
	for _, text := range texts {
		g := graphs(t, text)
		for _, fuel := range []int{0, 1, 2, 3, 5, 9, 200} {
			holds(t, text, m, g, []uint64{3, 1, 2}, fuel)
			holds(t, text, m, g, []uint64{0, 1}, fuel)
		}
	}
}

// TestP11_2EachWord: one word is changed, in one place at one node.
func TestP11_2EachWord(t *testing.T) {
	m := samples.New(22)
	for _, text := range texts {
		g := graphs(t, text)
		for i, f := range g.Funcs {
			lists := at(t, g, i)
			for node, list := range lists {
				for p := range f.Kinds {
					if slices.Contains(list, p) {
						continue
					}
					c := changedOnce(g, m, i, node, p)
					if r, same := agree(t, g, c, []uint64{2, 1}, 100); !same {
						t.Fatalf("%q: %s; with place %d changed at node %d of graph %d it differs", text, printed(r), p, node, i)
					}
				}
			}
		}
	}
}

// changedOnce is a program in which a word is changed in one place at one node.
func changedOnce(g api.Graphs, m *samples.Maker, graph, node, place int) api.Graphs {
	return changed(g, m, func(c changer, f int) {
		if f != graph {
			return
		}
		nodes := len(c.f.Nodes)
		begin := c.ahead(node, []int{place})
		lead := func(_, next int) int {
			if next == node {
				return begin
			}
			return next
		}
		c.f.Entry = lead(-1, c.f.Entry)
		c.eachWay(nodes, lead)
	})
}

func TestP11_2Programs(t *testing.T) {
	m := samples.New(23)
	for _, x := range samples.All() {
		p, _ := x.Program()
		r := holds(t, x.Code, m, built(t, p), x.Tape, 400)
		if trace.Ended(r.End) && printed(r) != x.Want {
			t.Errorf("%q: %s; want %s", x.Code, printed(r), x.Want)
		}
	}
	for range 1000 {
		p := m.Program()
		holds(t, samples.Printed(p), m, built(t, p), m.Tape(), 100+m.Roll(100))
	}
	n := 0
	for p := range samples.Short() {
		if n++; n%50 == 0 {
			holds(t, samples.Printed(p), m, built(t, p), nil, 200)
		}
	}
	holds(t, "the greatest program", m, built(t, samples.Great()), nil, 10000)
}

func TestP11_2ManyGraphs(t *testing.T) {
	m := samples.New(24)
	seen := samples.Tally{}
	for range 3000 {
		seen.Count(holds(t, "made-up graphs", m, m.Graphs(false), m.Tape(), m.Roll(300)))
		holds(t, "tangled graphs", m, m.Tangled(), m.Tape(), m.Roll(300))
	}
	if few := seen.Few(50, "no fuel", "by zero", "by null"); len(few) > 0 {
		t.Errorf("too few: %v", few)
	}
}

// TestP11_2LiveMatters: with a word changed that is live many runs are not the
// same, so the tests of those that are not live would tell.
func TestP11_2LiveMatters(t *testing.T) {
	m := samples.New(25)
	tried, told := 0, 0
	for range 3000 {
		g, tape := m.Graphs(false), m.Tape()
		lists := at(t, g, 0)
		node := g.Funcs[0].Entry
		for range m.Roll(4) {
			if next := ir.Next(g.Funcs[0].Nodes[node]); len(next) > 0 {
				node = next[0]
			}
		}
		if len(lists[node]) == 0 {
			continue
		}
		place := lists[node][m.Roll(len(lists[node]))]
		tried++
		if _, same := agree(t, g, changedOnce(g, m, 0, node, place), tape, 500); !same {
			told++
		}
	}
	if tried < 1000 || told < tried/4 {
		t.Errorf("of %d words that are live, %d matter", tried, told)
	}
}

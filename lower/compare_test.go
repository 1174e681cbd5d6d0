package lower_test

import (
	"slices"
	"testing"

	"windlass/api"
	"windlass/ir"
	"windlass/lower"
	"windlass/samples"
	"windlass/trace"
)

// tally counts what has been seen in graphs that are read bound.
type tally struct {
	exchanges, zeros, results, deferred, pointers int
	slots                                         map[api.NodeOp]int // nodes that use a slot
}

func (n *tally) count(b api.Graphs) {
	if n.slots == nil {
		n.slots = map[api.NodeOp]int{}
	}
	for _, f := range b.Funcs {
		if f.Nodes[f.Entry].Op == api.NConst && f.Nodes[f.Entry].Imm == 0 {
			n.zeros++
		}
		for i, node := range f.Nodes {
			used := slices.Concat(ir.Reads(node), ir.Writes(node))
			if slices.ContainsFunc(used, func(p int) bool { return p > 15 }) {
				n.slots[node.Op]++
			}
			switch {
			case node.Op == api.NMove && node.D == api.Scratch:
				n.exchanges++
			case node.Op == api.NMove && node.A == 0 && i > 0 && f.Nodes[i-1].Op == api.NCall:
				n.results++
			case node.Op == api.NDefer && len(node.Args) > 0 && i > 0 && f.Nodes[i-1].Op == api.NMove:
				n.deferred++
			}
		}
		if slices.Contains(f.Kinds[16:], api.Ptr) {
			n.pointers++
		}
	}
}

// few tells what has been seen seldom.
func (n *tally) few(least int) bool {
	for op := api.NConst; op <= api.NExit; op++ {
		if op != api.NNop && op != api.NCall && op != api.NDefer && n.slots[op] < least {
			return true
		}
	}
	return min(n.exchanges, n.zeros, n.results, n.deferred, n.pointers) < least
}

// fuels by which graphs are held against what they become.
var fuels = []int{0, 1, 2, 3, 5, 8, 13, 21, 34, 55, 100, 200}

// behavesAtSome holds P15.2 for some fuels, and for those by which the run ends.
// It answers the run.
func behavesAtSome(t testing.TB, g api.Graphs, tape []uint64) api.Result {
	t.Helper()
	r := run(t, g, false, tape, samples.Plenty)
	if trace.Ended(r.End) {
		behaves(t, g, tape, r.Steps-1, r.Steps, samples.Plenty)
	}
	behaves(t, g, tape, fuels...)
	return r
}

// TestP15_2ManyGraphs: made-up ones, in an order as programs have, or not.
func TestP15_2ManyGraphs(t *testing.T) {
	m := samples.New(81)
	var n tally
	seen := samples.Tally{}
	for i := range 4000 {
		g := m.Graphs(false)
		if i%2 > 0 {
			g = m.Tangled()
		}
		b, _ := lowered(t, g)
		n.count(b)
		seen.Count(behavesAtSome(t, g, m.Tape()))
	}
	if few := seen.Few(30, "by zero", "by null"); len(few) > 0 {
		t.Errorf("too few: %v", few)
	}
	if min(n.exchanges, n.zeros, n.results, n.deferred, n.pointers) < 300 {
		t.Errorf("too few: %+v", n)
	}
}

// TestP15_2BuiltGraphs: what layer 9 makes of programs.
func TestP15_2BuiltGraphs(t *testing.T) {
	m := samples.New(82)
	var n tally
	seen := samples.Tally{}
	for range 1000 {
		g := built(t, m.Program())
		b, _ := lowered(t, g)
		n.count(b)
		seen.Count(behavesAtSome(t, g, m.Tape()))
	}
	if few := seen.Few(20); len(few) > 0 {
		t.Errorf("too few: %v", few)
	}
	if min(n.exchanges, n.zeros, n.results, n.deferred, n.pointers) < 30 {
		t.Errorf("too few: %+v", n)
	}
}

// TestP15_2Crowds: graphs of which many places are in use at one time.
func TestP15_2Crowds(t *testing.T) {
	m := samples.New(83)
	var n tally
	for i := range 2500 {
		g := m.Crowded(samples.Crowd{Nodes: 20 + m.Roll(140), Width: 1 + m.Roll(40), Pointers: i%3 > 0, Held: i%3 > 1})
		b, _ := lowered(t, g)
		n.count(b)
		behavesAtSome(t, g, m.Tape())
	}
	// Zeros come with other graphs; no crowd ends with a number of its own.
	n.zeros, n.slots[api.NPanic], n.slots[api.NExit], n.slots[api.NRet] = 1000, 1000, 1000, 1000
	if n.few(50) {
		t.Errorf("too few: %+v", n)
	}
}

// TestP15_2SparseGraphs: more nodes and places, of which each node uses few.
func TestP15_2SparseGraphs(t *testing.T) {
	m := samples.New(84)
	var n tally
	for _, size := range []struct{ nodes, places, rounds int }{{10, 4, 500}, {20, 10, 500}, {40, 64, 500}, {120, 30, 200}, {200, 200, 50}, {10, 1000, 20}} {
		for range size.rounds {
			g := m.Sparse(size.nodes, size.places)
			g.Funcs[0].Entry = m.Roll(size.nodes)
			b, _ := lowered(t, g)
			n.count(b)
			behavesAtSome(t, g, m.Tape())
		}
	}
	if n.zeros < 300 || n.slots[api.NBranch] < 200 || n.slots[api.NExit] < 50 {
		t.Errorf("too few: %+v", n)
	}
}

// numbersOf a result: all of its lists of numbers.
func numbersOf(b api.Graphs, plan api.Plan) [][]int {
	all := slices.Concat(plan.Place, plan.Start)
	for _, f := range b.Funcs {
		all = append(all, f.Params, f.Init)
		for _, n := range f.Nodes {
			all = append(all, n.Args)
		}
	}
	return all
}

// TestP15_1Memory: results are new memory, no two lists share any, and arguments
// stay as they are, with what lies behind them.
func TestP15_1Memory(t *testing.T) {
	m := samples.New(85)
	for range 400 {
		g := samples.RoomyGraphs(m.Graphs(false))
		whole := samples.WhollyGraphs(g)
		first, plan := lowered(t, g)
		want, wantPlan := ir.Copy(first), copyPlan(plan)
		second, secondPlan := lowered(t, g)
		spread(t, second, secondPlan)
		if !ir.Same(first, want) || !samePlan(plan, wantPlan) {
			t.Fatalf("%v become %v, then %v", g, want, first)
		}
		if again, againPlan := lowered(t, g); !ir.Same(again, want) || !samePlan(againPlan, wantPlan) {
			t.Fatalf("%v become %v, then %v", g, want, again)
		}
		if !ir.Same(whole, samples.WhollyGraphs(g)) {
			t.Fatalf("%v: an argument is changed", whole)
		}
	}
}

func copyPlan(plan api.Plan) api.Plan {
	var c api.Plan
	for f := range plan.Place {
		c.Place = append(c.Place, slices.Clone(plan.Place[f]))
		c.Start = append(c.Start, slices.Clone(plan.Start[f]))
	}
	return c
}

// spread marks over all memory of a result: each list keeps its own.
func spread(t *testing.T, b api.Graphs, plan api.Plan) {
	t.Helper()
	lists := numbersOf(b, plan)
	for i, list := range lists {
		list = list[:cap(list)]
		for k := range list {
			list[k] = -9 - i
		}
	}
	for i, list := range lists {
		list = list[:cap(list)]
		if slices.ContainsFunc(list, func(v int) bool { return v != -9-i }) {
			t.Fatalf("list %d of %d shares memory", i, len(lists))
		}
	}
	for _, list := range [][][]int{plan.Place, plan.Start} {
		clear(list[:cap(list)])
	}
	for i := range b.Funcs {
		f := &b.Funcs[i]
		kinds := f.Kinds[:cap(f.Kinds)]
		for k := range kinds {
			kinds[k] = api.Kind(9 + i)
		}
		clear(f.Nodes[:cap(f.Nodes)])
	}
	for i, f := range b.Funcs {
		if slices.ContainsFunc(f.Kinds[:cap(f.Kinds)], func(k api.Kind) bool { return k != api.Kind(9+i) }) {
			t.Fatalf("the kinds of graph %d share memory", i)
		}
	}
	clear(b.Funcs[:cap(b.Funcs)])
}

// TestP15_1Repeated: what was asked before does not matter.
func TestP15_1Repeated(t *testing.T) {
	m := samples.New(86)
	for range 300 {
		g, h := m.Crowded(samples.Crowd{Nodes: 40, Width: 16, Pointers: true, Held: true}), m.Tangled()
		want, wantPlan := lowered(t, g)
		lower.Lower(h)
		lower.Lower(api.Graphs{})
		if got, plan := lowered(t, ir.Copy(g)); !ir.Same(got, want) || !samePlan(plan, wantPlan) {
			t.Fatalf("%v become %v, then %v", g, want, got)
		}
	}
}

// tryAny holds Lower against layer 7, and the rules, for any graphs.
func tryAny(t testing.TB, g api.Graphs, tape []uint64) api.Errno {
	t.Helper()
	want := ir.Check(g, false)
	if want != api.OK {
		answers(t, "any graphs", g, want)
		return want
	}
	behavesAtSome(t, g, tape)
	return want
}

// TestP15_1ManySpoiltGraphs: Lower answers what layer 7 does, or graphs.
func TestP15_1ManySpoiltGraphs(t *testing.T) {
	m := samples.New(87)
	seen := map[api.Errno]int{}
	for range 2000 {
		g := m.Tangled()
		m.Spoil(&g)
		seen[tryAny(t, g, nil)]++
	}
	if seen[api.OK] < 300 || seen[api.ErrNode] < 300 {
		t.Errorf("too few: %v", seen)
	}
}

// TestRulesAreSound: where no rule finds that a result has been spoilt, it behaves
// all the same.
func TestRulesAreSound(t *testing.T) {
	m := samples.New(88)
	found, passed := 0, 0
	for range 6000 {
		g := m.Graphs(false)
		b, plan := lowered(t, g)
		spoil(m, &b, plan)
		if fault(g, b, plan) != "" {
			found++
			continue
		}
		passed++
		tape := m.Tape()
		w := twinsOf(t, g, b, tape)
		for _, fuel := range fuels {
			if told := w.Fault(fuel); told != "" {
				t.Fatalf("no rule is broken by %v, of %v, by %v with %v: %s", b, g, plan, tape, told)
			}
		}
	}
	if found < 3000 || passed < 300 {
		t.Errorf("%d are found, %d are not", found, passed)
	}
}

// spoil one thing of a result. Most often a node loses what it does.
func spoil(m *samples.Maker, b *api.Graphs, plan api.Plan) {
	i := m.Roll(len(b.Funcs))
	f := &b.Funcs[i]
	n := &f.Nodes[m.Roll(len(f.Nodes))]
	list := plan.Place[i]
	if m.Roll(2) == 0 {
		list = plan.Start[i]
	}
	switch m.Roll(5) {
	case 0, 1:
		m.Spoil(b)
	case 2:
		*n = api.Node{Op: api.NNop, Next: n.Next}
	case 3:
		*n = samples.Used(f.Nodes[m.Roll(len(f.Nodes))])
	case 4:
		list[m.Roll(len(list))] = list[m.Roll(len(list))]
	}
}

func FuzzLower(f *testing.F) {
	for i := range uint64(40) {
		f.Add(i, uint8(i))
	}
	f.Fuzz(func(t *testing.T, seed uint64, choice uint8) {
		m := samples.New(seed)
		tryAny(t, m.Any(choice), m.Tape())
	})
}

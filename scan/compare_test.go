package scan_test

import (
	"slices"
	"testing"

	"windlass/api"
	"windlass/build"
	"windlass/ir"
	"windlass/order"
	"windlass/samples"
	"windlass/scan"
)

// tally counts graphs by what makes their assignment hard.
type tally struct{ six, more, crowded, pointers int }

// assignedAll holds the assignments of all graphs of a program against the rules.
func (n *tally) assignedAll(t testing.TB, g api.Graphs) {
	t.Helper()
	for f := range g.Funcs {
		assigned(t, g, f)
		spans, _ := order.Spans(g, f)
		most, held := crowding(g.Funcs[f].Kinds, spans)
		switch {
		case held:
			n.pointers++
		case most == 6:
			n.six++
		case most > 12:
			n.crowded++
		case most > 6:
			n.more++
		}
	}
}

// TestP13_1ManyGraphs: made-up ones, in an order as programs have, or not.
func TestP13_1ManyGraphs(t *testing.T) {
	m := samples.New(51)
	var n tally
	for range 3000 {
		n.assignedAll(t, m.Graphs(false))
		n.assignedAll(t, m.Tangled())
	}
	if n.six < 500 || n.more < 100 || n.pointers < 1000 {
		t.Errorf("too few: %+v", n)
	}
}

// TestP13_1BuiltGraphs: what layer 9 makes of programs.
func TestP13_1BuiltGraphs(t *testing.T) {
	var n tally
	built := func(p api.Program) {
		g, e := build.Build(p)
		if e != api.OK {
			t.Fatalf("layer 9 returns %d for %s", int(e), samples.Printed(p))
		}
		n.assignedAll(t, g)
	}
	for _, x := range samples.All() {
		p, _ := x.Program()
		built(p)
	}
	built(samples.Great())
	m := samples.New(52)
	for range 500 {
		built(m.Program())
	}
	if n.pointers < 300 || n.six < 50 || n.more < 20 {
		t.Errorf("too few: %+v", n)
	}
}

// TestP13_1SparseGraphs: more nodes and places, of which each node uses few.
func TestP13_1SparseGraphs(t *testing.T) {
	m := samples.New(53)
	var n tally
	for _, size := range []struct{ nodes, places, rounds int }{{10, 4, 1000}, {10, 6, 1000}, {20, 10, 1000}, {40, 64, 500}, {120, 30, 200}, {10, 1024, 50}} {
		for range size.rounds {
			g := m.Sparse(size.nodes, size.places)
			g.Funcs[0].Entry = m.Roll(size.nodes)
			n.assignedAll(t, g)
		}
	}
	if n.six < 100 || n.more < 100 || n.crowded < 100 {
		t.Errorf("too few: %+v", n)
	}
}

// TestP13_1Crowds: so many places in use at one position, and no more.
func TestP13_1Crowds(t *testing.T) {
	m := samples.New(54)
	var n tally
	for i := range 6000 {
		n.assignedAll(t, m.Crowded(samples.Crowd{Nodes: 20 + m.Roll(100), Width: 1 + m.Roll(24), Pointers: i%3 > 0, Held: i%3 > 1}))
	}
	if n.more < 500 || n.crowded < 500 || n.pointers < 500 {
		t.Errorf("too few: %+v", n)
	}
}

// TestP13_2Crowds: at most six places are in use at one position.
func TestP13_2Crowds(t *testing.T) {
	m := samples.New(55)
	var n tally
	for i := range 4000 {
		n.assignedAll(t, m.Crowded(samples.Crowd{Nodes: 20 + m.Roll(200), Width: 6 - i%10/8, Pointers: i%2 > 0}))
	}
	if n.six < 2500 || n.more+n.crowded+n.pointers > 0 {
		t.Errorf("too few, or others: %+v", n)
	}
}

// TestP13_1Memory: results are new memory, and arguments stay as they are, with
// what lies behind them.
func TestP13_1Memory(t *testing.T) {
	m := samples.New(56)
	for range 300 {
		g := samples.RoomyGraphs(m.Tangled())
		whole := samples.WhollyGraphs(g)
		for f := range g.Funcs {
			first, second := assigned(t, g, f), assigned(t, g, f)
			want := slices.Clone(first)
			second = second[:cap(second)]
			for i := range second {
				second[i] = -9
			}
			if !slices.Equal(first, want) || !slices.Equal(assigned(t, g, f), want) {
				t.Fatalf("graph %d of %v: it is %v, then %v", f, g, want, first)
			}
		}
		if !ir.Same(whole, samples.WhollyGraphs(g)) {
			t.Fatalf("%v: an argument is changed", whole)
		}
	}
}

// TestP13_1Repeated: what was asked before does not matter.
func TestP13_1Repeated(t *testing.T) {
	m := samples.New(57)
	for range 300 {
		g, h := m.Crowded(samples.Crowd{Nodes: 40, Width: 16, Pointers: true, Held: true}), m.Tangled()
		want := assigned(t, g, 0)
		scan.Assign(h, 0)
		scan.Assign(h, 99)
		scan.Assign(api.Graphs{}, 0)
		if got := assigned(t, ir.Copy(g), 0); !slices.Equal(got, want) {
			t.Fatalf("%v: it is %v, then %v", g, want, got)
		}
	}
}

// tryAny holds Assign against layer 7, and the rules, for any graphs.
func tryAny(t testing.TB, g api.Graphs) api.Errno {
	t.Helper()
	want := ir.Check(g, false)
	if want == api.OK {
		new(tally).assignedAll(t, g)
		return want
	}
	for f := -1; f <= len(g.Funcs); f++ {
		if got := errorOf(g, f); got != want {
			t.Fatalf("graph %d of %v: Assign returns %d; want %d", f, g, int(got), int(want))
		}
	}
	return want
}

// TestP13_1ManySpoiltGraphs: Assign answers what layer 7 does, or a list.
func TestP13_1ManySpoiltGraphs(t *testing.T) {
	m := samples.New(58)
	seen := map[api.Errno]int{}
	for range 2000 {
		g := m.Tangled()
		m.Spoil(&g)
		seen[tryAny(t, g)]++
	}
	if seen[api.OK] < 300 || seen[api.ErrNode] < 300 {
		t.Errorf("too few: %v", seen)
	}
}

func FuzzScan(f *testing.F) {
	for i := range uint64(40) {
		f.Add(i, uint8(i))
	}
	f.Fuzz(func(t *testing.T, seed uint64, choice uint8) {
		m := samples.New(seed)
		tryAny(t, m.Any(choice))
	})
}

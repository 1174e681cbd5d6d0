package irun_test

import (
	"math"
	"math/rand"
	"testing"

	"windlass/api"
	"windlass/ir"
	"windlass/irun"
	"windlass/samples"
	"windlass/sem"
	"windlass/trace"
)

// same holds Run against the second reading, as far as that is sure.
func same(t testing.TB, g api.Graphs, bound bool, tape []uint64, fuel int) (api.Result, bool) {
	t.Helper()
	r := run(t, g, bound, tape, fuel)
	s, sure := reading(g, bound, tape, fuel)
	if sure && !sameResult(r, s) {
		t.Fatalf("%v, %s, with %v and fuel %d: Run says %s; the second reading says %s", g, wayOf(bound), tape, fuel, told(r), told(s))
	}
	if !trace.Prefix(s.Events, r.Events) || r.Steps < s.Steps || r.Steps > fuel || !trace.Ended(r.End) && (r.Steps != fuel || r.End != api.End{Kind: api.NoFuel}) {
		t.Fatalf("%v, %s, with %v and fuel %d: Run says %s; the second reading begins with %s", g, wayOf(bound), tape, fuel, told(r), told(s))
	}
	return r, sure
}

// twice is a function as bytecode and as a graph, which have as many steps.
type twice struct {
	code  api.Func
	graph api.Graph
}

// twiceOf acts: what function n panics with tells which one it is, and what
// recover leaves is told.
func twiceOf(n int, list []samples.Act) twice {
	w := twice{api.Func{Keep: -1}, api.Graph{Kinds: make([]api.Kind, 16), Keep: -1}}
	for k, a := range list {
		value := uint64(10*n + k)
		switch a.Op {
		case api.Recover:
			w.add(api.Instr{Op: api.Recover}, api.Node{Op: api.NRecover, D: 1, E: 2})
			w.add(api.Instr{Op: api.Out}, api.Node{Op: api.NOut, A: 2})
			w.add(api.Instr{Op: api.Out}, api.Node{Op: api.NOut, A: 1})
		case api.Panic:
			w.add(api.Instr{Op: api.Const, Imm: value}, api.Node{Op: api.NConst, D: 3, Imm: value})
			w.add(api.Instr{Op: api.Panic}, api.Node{Op: api.NPanic, A: 3})
		case api.Call:
			w.add(api.Instr{Op: api.Call, Arg: a.Function}, api.Node{Op: api.NCall, F: a.Function, D: -1})
		case api.Defer:
			w.add(api.Instr{Op: api.Defer, Arg: a.Function}, api.Node{Op: api.NDefer, F: a.Function})
		}
	}
	w.add(api.Instr{Op: api.Ret}, api.Node{Op: api.NRet, A: -1})
	return w
}

func (w *twice) add(i api.Instr, n api.Node) {
	w.code.Code = append(w.code.Code, i)
	n.Next = len(w.code.Code)
	w.graph.Nodes = append(w.graph.Nodes, n)
}

// TestP8_1AsLayer6: four functions, each of which does up to two things that
// make frames, end them, or ask about a panic, against their meaning.
func TestP8_1AsLayer6(t *testing.T) {
	var funcs [4][]twice
	for n, lists := range samples.ShortLists() {
		for _, l := range lists {
			funcs[n] = append(funcs[n], twiceOf(n, l))
		}
	}
	seen := samples.Tally{}
	for _, a := range funcs[0] {
		for _, b := range funcs[1] {
			for _, c := range funcs[2] {
				for _, d := range funcs[3] {
					seen.Count(asLayer6(t, a, b, c, d))
				}
			}
		}
	}
	if few := seen.Few(400); len(few) > 0 {
		t.Errorf("too few: %v", few)
	}
}

func asLayer6(t *testing.T, list ...twice) api.Result {
	t.Helper()
	var p api.Program
	var g api.Graphs
	for _, w := range list {
		p.Funcs = append(p.Funcs, w.code)
		g.Funcs = append(g.Funcs, w.graph)
	}
	want, e := sem.Run(p, nil, plenty)
	if e != api.OK {
		t.Fatalf("layer 6 says %d", int(e))
	}
	for _, bound := range []bool{false, true} {
		if r := run(t, g, bound, nil, plenty); !sameResult(r, want) {
			t.Fatalf("%v, %s: %s; layer 6 says %s", g, wayOf(bound), told(r), told(want))
		}
	}
	return want
}

// maker makes graphs that are valid in one way. Read bound, kinds are what it
// goes by most often.
type maker struct {
	*rand.Rand
	bound bool
	g     api.Graphs
	at    int // the graph
	nodes []api.Node
	jumps []jumpTo
}

// jumpTo is a node that goes on with a thing, by its number.
type jumpTo struct {
	node  int
	field func(n *api.Node) *int
	thing int
}

func (m *maker) one(in int) bool { return m.Intn(in) == 0 }

func (m *maker) add(n api.Node) {
	n.Next = len(m.nodes) + 1
	m.nodes = append(m.nodes, n)
}

func (m *maker) graphs() api.Graphs {
	m.g = api.Graphs{}
	for i := range 2 + m.Intn(5) {
		m.g.Funcs = append(m.g.Funcs, m.head(i))
	}
	for i := range m.g.Funcs {
		m.body(i)
	}
	return m.g
}

// head of a graph: at least two of its places are numbers, two are pointers.
func (m *maker) head(i int) api.Graph {
	f := api.Graph{Cells: 1 + m.Intn(3), Keep: m.Intn(2) - 1}
	places := 4 + m.Intn(8)
	if m.bound {
		places = 16 + m.Intn(6)
	}
	for p := range places {
		k := api.Kind(m.Intn(2))
		if p >= places-4 {
			k = api.Kind(p % 2)
		}
		f.Kinds = append(f.Kinds, k)
	}
	if i > 0 {
		f.Params = m.Perm(places)[:m.Intn(4)]
		f.Result = m.one(2)
	}
	for i := range f.Params {
		if m.bound {
			f.Params[i] = i
		}
		cell := m.Intn(f.Cells+1) - 1
		if f.Kinds[f.Params[i]] == api.Ptr && !m.one(20) || f.Kinds[f.Params[i]] == api.Ptr && !m.bound {
			cell = -1
		}
		f.Init = append(f.Init, cell)
	}
	return f
}

// place of a kind; read bound, seldom, one of the other.
func (m *maker) place(k api.Kind) int {
	f := m.g.Funcs[m.at]
	for {
		p := m.Intn(len(f.Kinds))
		if f.Kinds[p] == k || m.bound && m.one(30) {
			return p
		}
	}
}

func (m *maker) number() int  { return m.place(api.Num) }
func (m *maker) pointer() int { return m.place(api.Ptr) }
func (m *maker) cell() int    { return m.Intn(m.g.Funcs[m.at].Cells) }

func (m *maker) body(i int) {
	m.at, m.nodes, m.jumps = i, nil, nil
	n := 1 + m.Intn(8)
	var begins []int
	for range n {
		begins = append(begins, len(m.nodes))
		if len(begins) == 1 && m.one(3) {
			m.ask()
			continue
		}
		m.thing(n)
	}
	begins = append(begins, len(m.nodes))
	m.ret()
	for _, j := range m.jumps {
		*j.field(&m.nodes[j.node]) = begins[j.thing]
	}
	m.mix()
}

// mix the order of the nodes.
func (m *maker) mix() {
	f := &m.g.Funcs[m.at]
	to := m.Perm(len(m.nodes))
	f.Nodes = make([]api.Node, len(m.nodes))
	for i, n := range m.nodes {
		if len(ir.Next(n)) > 0 {
			n.Next = to[n.Next]
			n.Else = to[n.Else]
		}
		f.Nodes[to[i]] = n
	}
	f.Entry = to[0]
}

// thing is nodes that go on with the next thing. There are n of them.
func (m *maker) thing(n int) {
	switch m.Intn(18) {
	case 0, 1, 2:
		m.some()
		m.add(api.Node{Op: api.NOut, A: m.number()})
	case 3, 4:
		m.some()
	case 5:
		m.add(api.Node{Op: api.NCellSet, Cell: m.cell(), A: m.number()})
	case 6:
		m.add(api.Node{Op: api.NAddr, D: m.pointer(), Cell: m.cell()})
	case 7:
		m.add(api.Node{Op: api.NStore, A: m.pointer(), B: m.number()})
	case 8, 9:
		m.call()
	case 10, 11, 12:
		f := m.other()
		m.add(api.Node{Op: api.NDefer, F: f, Args: m.args(f)})
	case 13:
		m.ask()
	case 14:
		m.some()
		m.jumpFrom(api.Node{Op: api.NBranch, A: m.number()}, elsewhere, m.Intn(n+1))
	case 15:
		m.jumpFrom(api.Node{Op: api.NNop}, next, m.Intn(n+1))
	case 16:
		m.some()
		m.add(api.Node{Op: api.NPanic, A: m.number()})
	case 17:
		m.rare()
	}
}

func (m *maker) rare() {
	switch m.Intn(4) {
	case 0:
		m.add(api.Node{Op: api.NExit, A: m.number()})
	case 1:
		m.ret()
	case 2:
		m.add(api.Node{Op: api.NMove, D: m.pointer(), A: m.pointer()})
		if n := &m.nodes[len(m.nodes)-1]; !m.bound && m.g.Funcs[m.at].Kinds[n.D] != m.g.Funcs[m.at].Kinds[n.A] {
			n.D = n.A
		}
	case 3:
		m.add(api.Node{Op: api.NNop})
	}
}

func (m *maker) jumpFrom(n api.Node, field func(n *api.Node) *int, thing int) {
	m.jumps = append(m.jumps, jumpTo{len(m.nodes), field, thing})
	m.add(n)
}

func (m *maker) ret() {
	a := -1
	if m.g.Funcs[m.at].Result {
		a = m.number()
	}
	m.add(api.Node{Op: api.NRet, A: a})
}

// some place gets a number.
func (m *maker) some() {
	d := m.number()
	switch m.Intn(7) {
	case 0, 1:
		m.add(api.Node{Op: api.NConst, D: d, Imm: []uint64{0, 1, 2, 5, 9, math.MaxUint64}[m.Intn(6)]})
	case 2:
		m.add(api.Node{Op: api.NBin, By: api.Add + api.Op(m.Intn(14)), D: d, A: m.number(), B: m.number()})
	case 3:
		m.add(api.Node{Op: api.NMove, D: d, A: m.number()})
	case 4:
		m.add(api.Node{Op: api.NCellGet, D: d, Cell: m.cell()})
	case 5:
		m.add(api.Node{Op: api.NIn, D: d})
	case 6:
		p := m.pointer()
		if m.one(2) {
			m.add(api.Node{Op: api.NAddr, D: p, Cell: m.cell()})
		}
		m.add(api.Node{Op: api.NLoad, D: d, A: p})
	}
}

// ask whether there is a panic.
func (m *maker) ask() {
	d, e := m.number(), m.number()
	for d == e {
		e = m.number()
	}
	m.add(api.Node{Op: api.NRecover, D: d, E: e})
	m.add(api.Node{Op: api.NOut, A: e})
	m.add(api.Node{Op: api.NOut, A: d})
}

// other is a function, most often one further on: a run of functions that call
// one another without end has little else in it.
func (m *maker) other() int {
	if n := len(m.g.Funcs) - 1 - m.at; n > 0 && !m.one(8) {
		return m.at + 1 + m.Intn(n)
	}
	return m.Intn(len(m.g.Funcs))
}

func (m *maker) call() {
	f := m.other()
	n := api.Node{Op: api.NCall, F: f, D: -1, Args: m.args(f)}
	if m.g.Funcs[f].Result && !m.one(3) {
		n.D = 0
		if !m.bound {
			n.D = m.number()
		}
	}
	m.add(n)
	if n.D >= 0 && m.one(2) {
		m.add(api.Node{Op: api.NOut, A: n.D})
	}
}

// args of a function, and the nodes that lay them in their places.
func (m *maker) args(f int) []int {
	called := m.g.Funcs[f]
	var args []int
	for i, p := range called.Params {
		at := i
		if !m.bound {
			at = m.place(called.Kinds[p])
		}
		args = append(args, at)
		switch {
		case called.Kinds[p] == api.Ptr && !m.one(3):
			m.add(api.Node{Op: api.NAddr, D: at, Cell: m.cell()})
		case m.bound && called.Kinds[p] == api.Ptr:
			m.add(api.Node{Op: api.NMove, D: at, A: m.pointer()})
		case m.bound && !m.one(4):
			m.add(api.Node{Op: api.NMove, D: at, A: m.number()})
		}
	}
	return args
}

func (m *maker) tape() []uint64 {
	var tape []uint64
	for range m.Intn(6) {
		tape = append(tape, []uint64{0, 1, 2, 3, 64, math.MaxUint64, 1 << 63}[m.Intn(7)])
	}
	return tape
}

func makers(seed int64) []*maker {
	return []*maker{
		{Rand: rand.New(rand.NewSource(seed))},
		{Rand: rand.New(rand.NewSource(seed)), bound: true},
	}
}

func TestP8_1ManyGraphs(t *testing.T) {
	for _, m := range makers(8) {
		seen := samples.Tally{}
		for range 40000 {
			g := m.graphs()
			if e := ir.Check(g, m.bound); e != api.OK {
				t.Fatalf("%s: layer 7 says %d of %v", wayOf(m.bound), int(e), g)
			}
			r, sure := same(t, g, m.bound, m.tape(), m.Intn(600))
			if sure {
				seen.Count(r)
			} else {
				seen["not sure"]++
			}
		}
		if few := seen.Few(400, "no fuel"); len(few) > 0 {
			t.Errorf("too few: %v", few)
		}
		if seen["not sure"] > 10000 || !m.bound && seen["not sure"] > 0 {
			t.Errorf("%s: %d times a number is made of a pointer", wayOf(m.bound), seen["not sure"])
		}
	}
}

func TestP8_2ManyGraphs(t *testing.T) {
	for _, m := range makers(82) {
		for range 1000 {
			g, tape := m.graphs(), m.tape()
			ladder(t, "a graph that was made", g, m.bound, tape, min(run(t, g, m.bound, tape, 200).Steps+3, 200))
		}
	}
}

// spoilOne changes one number of graphs.
func (m *maker) spoilOne(g *api.Graphs) {
	f := &g.Funcs[m.Intn(len(g.Funcs))]
	n := &f.Nodes[m.Intn(len(f.Nodes))]
	ints := []*int{&f.Cells, &f.Keep, &f.Entry, &n.D, &n.E, &n.A, &n.B, &n.F, &n.Cell, &n.Next, &n.Else}
	for _, list := range [][]int{f.Params, f.Init, n.Args} {
		for i := range list {
			ints = append(ints, &list[i])
		}
	}
	switch i := m.Intn(len(ints) + 3); {
	case i < len(ints):
		*ints[i] += m.Intn(7) - 3
	case i == len(ints):
		n.Op = api.NodeOp(m.Intn(20))
	case i == len(ints)+1:
		n.By = api.Op(m.Intn(24))
	default:
		f.Kinds[m.Intn(len(f.Kinds))] ^= api.Kind(1 + m.Intn(2))
	}
}

// tryAny holds Run against layer 7 and the second reading, for any graphs.
func tryAny(t testing.TB, g api.Graphs, bound bool, tape []uint64, fuel int) api.Errno {
	t.Helper()
	want := ir.Check(g, bound)
	if want == api.OK {
		same(t, g, bound, tape, fuel)
	} else if r, e := irun.Run(g, bound, tape, fuel); e != want || !isZero(r) {
		t.Errorf("%v, %s: Run returns %s, %d; want nothing, %d", g, wayOf(bound), told(r), int(e), int(want))
	}
	return want
}

// TestP8_1ManySpoiltGraphs: Run answers what layer 7 does, or a run.
func TestP8_1ManySpoiltGraphs(t *testing.T) {
	for _, m := range makers(81) {
		seen := map[api.Errno]int{}
		for range 20000 {
			g := m.graphs()
			m.spoilOne(&g)
			seen[tryAny(t, g, m.bound, m.tape(), m.Intn(100))]++
			tryAny(t, g, !m.bound, nil, 100)
		}
		if seen[api.OK] < 1000 || seen[api.ErrNode] < 1000 {
			t.Errorf("%s, too few: %v", wayOf(m.bound), seen)
		}
	}
}

func FuzzRun(f *testing.F) {
	for i := range int64(40) {
		f.Add(i, uint8(i), 50*int(i), uint64(i))
	}
	f.Fuzz(func(t *testing.T, seed int64, changes uint8, fuel int, number uint64) {
		if fuel < 0 || fuel > 3000 {
			return
		}
		m := makers(seed)[changes%2]
		g := m.graphs()
		for range changes / 2 % 8 {
			m.spoilOne(&g)
		}
		tryAny(t, g, m.bound, []uint64{number, 1}, fuel)
		tryAny(t, g, !m.bound, []uint64{number}, fuel)
	})
}

package samples

import (
	"math"

	"windlass/api"
	"windlass/ir"
)

// weaver makes graphs that are valid, read in one way. Read bound, kinds are
// what it goes by most often.
type weaver struct {
	*Maker
	bound bool
	g     api.Graphs
	graph int
	nodes []api.Node
	leaps []leap
}

// leap is a node that continues with a thing, by its number.
type leap struct {
	node   int
	isElse bool
	thing  int
}

// Graphs of two to six functions that are valid, read free or bound.
func (m *Maker) Graphs(bound bool) api.Graphs {
	w := &weaver{Maker: m, bound: bound}
	for i := range 2 + m.Roll(5) {
		w.g.Funcs = append(w.g.Funcs, w.head(i))
	}
	for i := range w.g.Funcs {
		w.weave(i)
	}
	return w.g
}

// Tangled graphs are valid, read free; many of their nodes continue anywhere.
func (m *Maker) Tangled() api.Graphs {
	g := m.Graphs(false)
	for _, f := range g.Funcs {
		for i := range f.Nodes {
			n := &f.Nodes[i]
			if m.one(3) {
				n.Next = m.Roll(len(f.Nodes))
			}
			if m.one(3) {
				n.Else = m.Roll(len(f.Nodes))
			}
		}
	}
	return g
}

// Sparse is one graph that is valid, read free, whose nodes use and continue with
// any of its numbers.
func (m *Maker) Sparse(nodes, places int) api.Graphs {
	f := api.Graph{Kinds: make([]api.Kind, places), Keep: -1}
	ops := []api.NodeOp{api.NConst, api.NMove, api.NBin, api.NOut, api.NBranch, api.NBranch, api.NNop, api.NIn, api.NRecover, api.NExit}
	for range nodes {
		n := api.Node{Op: ops[m.Roll(len(ops))], By: api.Xor, D: m.Roll(places), E: m.Roll(places), A: m.Roll(places), B: m.Roll(places), Next: m.Roll(nodes), Else: m.Roll(nodes)}
		if n.D == n.E {
			n.E = (n.D + 1) % places
		}
		f.Nodes = append(f.Nodes, n)
	}
	return api.Graphs{Funcs: []api.Graph{f}}
}

// Any graphs of all kinds, chosen by a number; some of them are spoilt, once or
// twice.
func (m *Maker) Any(choice uint8) api.Graphs {
	var g api.Graphs
	switch choice % 4 {
	case 0:
		g = m.Graphs(false)
	case 1:
		g = m.Tangled()
	case 2:
		g = m.Sparse(1+m.Roll(30), 2+m.Roll(40))
	case 3:
		g = m.Crowded(Crowd{Nodes: 1 + m.Roll(120), Width: 1 + m.Roll(40), Pointers: m.one(2), Held: m.one(2)})
	}
	for range choice / 4 % 3 {
		m.Spoil(&g)
	}
	return g
}

// perm is the numbers below n in any order.
func (m *Maker) perm(n int) []int {
	list := make([]int, n)
	for i := range list {
		k := m.Roll(i + 1)
		list[i] = list[k]
		list[k] = i
	}
	return list
}

// head of a graph: at least two of its places are numbers, two are pointers.
func (w *weaver) head(i int) api.Graph {
	f := api.Graph{Cells: 1 + w.Roll(3), Keep: w.Roll(2) - 1}
	places := 4 + w.Roll(8)
	if w.bound {
		places = api.Registers + w.Roll(6)
	}
	for p := range places {
		k := api.Kind(w.Roll(2))
		if p >= places-4 {
			k = api.Kind(p % 2)
		}
		f.Kinds = append(f.Kinds, k)
	}
	if i > 0 {
		f.Params = w.perm(places)[:w.Roll(4)]
		f.Result = w.one(2)
	}
	for i := range f.Params {
		if w.bound {
			f.Params[i] = i
		}
		f.Init = append(f.Init, w.cellFor(f, f.Params[i]))
	}
	return f
}

// cellFor a parameter's Init. A pointer has one seldom, and only read bound.
func (w *weaver) cellFor(f api.Graph, place int) int {
	cell := w.Roll(f.Cells+1) - 1
	if f.Kinds[place] == api.Ptr && !(w.bound && w.one(20)) {
		return -1
	}
	return cell
}

func (w *weaver) weave(i int) {
	w.graph, w.nodes, w.leaps = i, nil, nil
	n := 1 + w.Roll(8)
	var begins []int
	for range n {
		begins = append(begins, len(w.nodes))
		if len(begins) == 1 && w.one(3) {
			w.ask()
			continue
		}
		w.thing(n)
	}
	begins = append(begins, len(w.nodes))
	w.ret()
	for _, l := range w.leaps {
		if l.isElse {
			w.nodes[l.node].Else = begins[l.thing]
		} else {
			w.nodes[l.node].Next = begins[l.thing]
		}
	}
	w.mix()
}

// mix the order of the nodes.
func (w *weaver) mix() {
	f := w.of()
	to := w.perm(len(w.nodes))
	f.Nodes = make([]api.Node, len(w.nodes))
	for i, n := range w.nodes {
		if len(ir.Next(n)) > 0 {
			n.Next = to[n.Next]
			n.Else = to[n.Else]
		}
		f.Nodes[to[i]] = n
	}
	f.Entry = to[0]
}

func (w *weaver) of() *api.Graph { return &w.g.Funcs[w.graph] }

func (w *weaver) add(n api.Node) {
	n.Next = len(w.nodes) + 1
	w.nodes = append(w.nodes, n)
}

// leap from a node, which is added, to a thing.
func (w *weaver) leap(n api.Node, things int) {
	w.leaps = append(w.leaps, leap{len(w.nodes), n.Op == api.NBranch, w.Roll(things)})
	w.add(n)
}

// place of a kind; read bound, seldom, one of the other.
func (w *weaver) place(k api.Kind) int {
	for {
		p := w.Roll(len(w.of().Kinds))
		if w.of().Kinds[p] == k || w.bound && w.one(30) {
			return p
		}
	}
}

func (w *weaver) num() int  { return w.place(api.Num) }
func (w *weaver) ptr() int  { return w.place(api.Ptr) }
func (w *weaver) cell() int { return w.Roll(w.of().Cells) }

// thing is nodes that continue with the next thing. There are n of them.
func (w *weaver) thing(n int) {
	switch w.Roll(18) {
	case 0, 1, 2:
		w.some()
		w.add(api.Node{Op: api.NOut, A: w.num()})
	case 3, 4:
		w.some()
	case 5:
		w.add(api.Node{Op: api.NCellSet, Cell: w.cell(), A: w.num()})
	case 6:
		w.add(api.Node{Op: api.NAddr, D: w.ptr(), Cell: w.cell()})
	case 7:
		w.add(api.Node{Op: api.NStore, A: w.ptr(), B: w.num()})
	case 8, 9:
		w.call()
	case 10, 11, 12:
		f := w.other()
		w.add(api.Node{Op: api.NDefer, F: f, Args: w.args(f)})
	case 13:
		w.ask()
	case 14:
		w.some()
		w.leap(api.Node{Op: api.NBranch, A: w.num()}, n+1)
	case 15:
		w.leap(api.Node{Op: api.NNop}, n+1)
	case 16:
		w.some()
		w.add(api.Node{Op: api.NPanic, A: w.num()})
	case 17:
		w.rare()
	}
}

func (w *weaver) rare() {
	switch w.Roll(4) {
	case 0:
		w.add(api.Node{Op: api.NExit, A: w.num()})
	case 1:
		w.ret()
	case 2:
		w.add(api.Node{Op: api.NMove, D: w.ptr(), A: w.ptr()})
	case 3:
		w.add(api.Node{Op: api.NNop})
	}
}

func (w *weaver) ret() {
	a := -1
	if w.of().Result {
		a = w.num()
	}
	w.add(api.Node{Op: api.NRet, A: a})
}

// some place gets a number.
func (w *weaver) some() {
	d := w.num()
	switch w.Roll(7) {
	case 0, 1:
		w.add(api.Node{Op: api.NConst, D: d, Imm: []uint64{0, 1, 2, 5, 9, math.MaxUint64}[w.Roll(6)]})
	case 2:
		w.add(api.Node{Op: api.NBin, By: api.Add + api.Op(w.Roll(14)), D: d, A: w.num(), B: w.num()})
	case 3:
		w.add(api.Node{Op: api.NMove, D: d, A: w.num()})
	case 4:
		w.add(api.Node{Op: api.NCellGet, D: d, Cell: w.cell()})
	case 5:
		w.add(api.Node{Op: api.NIn, D: d})
	case 6:
		p := w.ptr()
		if w.one(2) {
			w.add(api.Node{Op: api.NAddr, D: p, Cell: w.cell()})
		}
		w.add(api.Node{Op: api.NLoad, D: d, A: p})
	}
}

// ask whether there is a panic.
func (w *weaver) ask() {
	d, e := w.num(), w.num()
	for d == e {
		e = w.num()
	}
	w.add(api.Node{Op: api.NRecover, D: d, E: e})
	w.add(api.Node{Op: api.NOut, A: e})
	w.add(api.Node{Op: api.NOut, A: d})
}

// other is a function, most often one further on: a run of functions that call
// one another without end has little else in it.
func (w *weaver) other() int {
	if n := len(w.g.Funcs) - 1 - w.graph; n > 0 && !w.one(8) {
		return w.graph + 1 + w.Roll(n)
	}
	return w.Roll(len(w.g.Funcs))
}

func (w *weaver) call() {
	f := w.other()
	n := api.Node{Op: api.NCall, F: f, D: -1, Args: w.args(f)}
	if w.g.Funcs[f].Result && !w.one(3) {
		n.D = 0
		if !w.bound {
			n.D = w.num()
		}
	}
	w.add(n)
	if n.D >= 0 && w.one(2) {
		w.add(api.Node{Op: api.NOut, A: n.D})
	}
}

// args of a function, and the nodes that lay them in their places.
func (w *weaver) args(f int) []int {
	called := w.g.Funcs[f]
	var args []int
	for i, p := range called.Params {
		at := i
		if !w.bound {
			at = w.place(called.Kinds[p])
		}
		args = append(args, at)
		switch {
		case called.Kinds[p] == api.Ptr && !w.one(3):
			w.add(api.Node{Op: api.NAddr, D: at, Cell: w.cell()})
		case w.bound && called.Kinds[p] == api.Ptr:
			w.add(api.Node{Op: api.NMove, D: at, A: w.ptr()})
		case w.bound && !w.one(4):
			w.add(api.Node{Op: api.NMove, D: at, A: w.num()})
		}
	}
	return args
}

// Spoil changes one number of graphs.
func (m *Maker) Spoil(g *api.Graphs) {
	f := &g.Funcs[m.Roll(len(g.Funcs))]
	n := &f.Nodes[m.Roll(len(f.Nodes))]
	ints := []*int{&f.Cells, &f.Keep, &f.Entry, &n.D, &n.E, &n.A, &n.B, &n.F, &n.Cell, &n.Next, &n.Else}
	for _, list := range [][]int{f.Params, f.Init, n.Args} {
		for i := range list {
			ints = append(ints, &list[i])
		}
	}
	switch i := m.Roll(len(ints) + 3); {
	case i < len(ints):
		*ints[i] += m.Roll(7) - 3
	case i == len(ints):
		n.Op = api.NodeOp(m.Roll(20))
	case i == len(ints)+1:
		n.By = api.Op(m.Roll(24))
	default:
		f.Kinds[m.Roll(len(f.Kinds))] ^= api.Kind(1 + m.Roll(2))
	}
}

package ir_test

import (
	"math"
	"slices"
	"strconv"
	"testing"

	"windlass/api"
	"windlass/ir"
)

// kindsOf places: those with even numbers are numbers, the others are pointers.
func kindsOf(n int) []api.Kind {
	kinds := make([]api.Kind, n)
	for i := range kinds {
		kinds[i] = api.Kind(i % 2)
	}
	return kinds
}

// graph has 20 places, 3 cells, and as many parameters, which are the first
// places; it begins with the nodes, and then ends.
func graph(params int, result bool, nodes ...api.Node) api.Graph {
	f := api.Graph{Kinds: kindsOf(20), Cells: 3, Result: result, Keep: -1}
	for i := range params {
		f.Params = append(f.Params, i)
		f.Init = append(f.Init, -1)
	}
	f.Nodes = append(nodes, api.Node{Op: api.NExit, A: 2})
	return f
}

// Where the graphs of everything are.
const (
	subject  = 1 // it has all operations, once each, in their order
	nothing  = 2 // no parameters, no result
	receiver = 3 // four parameters, no result
	answerer = 4 // one parameter, a result
	last     = 5 // two parameters, no result
)

// everything is a program that is valid, read free and read bound.
func everything() api.Graphs {
	all := []api.Node{
		{Op: api.NConst, D: 2, Imm: 1 << 63, Next: 1},
		{Op: api.NMove, D: 3, A: 1, Next: 2},
		{Op: api.NBin, By: api.Add, D: 2, A: 4, B: 6, Next: 3},
		{Op: api.NCellGet, D: 2, Cell: 2, Next: 4},
		{Op: api.NCellSet, A: 2, Cell: 1, Next: 5},
		{Op: api.NAddr, D: 3, Cell: 0, Next: 6},
		{Op: api.NLoad, D: 2, A: 3, Next: 7},
		{Op: api.NStore, A: 3, B: 2, Next: 8},
		{Op: api.NBranch, A: 2, Next: 9, Else: 10},
		{Op: api.NNop, Next: 10},
		{Op: api.NCall, D: 0, F: subject, Args: []int{0, 1}, Next: 11},
		{Op: api.NRet, A: 2},
		{Op: api.NDefer, F: receiver, Args: []int{0, 1, 2, 3}, Next: 13},
		{Op: api.NPanic, A: 2},
		{Op: api.NRecover, D: 2, E: 4, Next: 15},
		{Op: api.NIn, D: 2, Next: 16},
		{Op: api.NOut, A: 2, Next: 17},
	}
	g := api.Graphs{Funcs: []api.Graph{
		graph(0, false), graph(2, true, all...), graph(0, false), graph(4, false), graph(1, true), graph(2, false),
	}}
	f := &g.Funcs[subject]
	f.Init, f.Keep = []int{2, -1}, 1
	return g
}

// at is where the subject has an operation.
func at(op api.NodeOp) int { return int(op - api.NConst) }

func checkReading(t *testing.T, name string, g api.Graphs, bound, valid bool) {
	t.Helper()
	want := api.ErrNode
	if valid {
		want = api.OK
	}
	reading := "read free"
	if bound {
		reading = "read bound"
	}
	if got := ir.Check(g, bound); got != want {
		t.Errorf("%s, %s: Check returns %d; want %d", name, reading, int(got), int(want))
	}
	if fault := faultOf(g, bound); valid != (fault == "") {
		t.Errorf("%s, %s: the second reading says %q; want valid: %v", name, reading, fault, valid)
	}
}

func check(t *testing.T, name string, g api.Graphs, free, bound bool) {
	t.Helper()
	checkReading(t, name, g, false, free)
	checkReading(t, name, g, true, bound)
}

// checkChanged checks everything with one change.
func checkChanged(t *testing.T, name string, free, bound bool, change func(g *api.Graphs)) {
	t.Helper()
	g := everything()
	change(&g)
	check(t, name, g, free, bound)
}

// checkHead is for a change of the subject.
func checkHead(t *testing.T, name string, free, bound bool, change func(f *api.Graph)) {
	t.Helper()
	checkChanged(t, name, free, bound, func(g *api.Graphs) { change(&g.Funcs[subject]) })
}

// checkOp is for changes of the subject's node with an operation.
func checkOp(t *testing.T, op api.NodeOp, name string, free, bound bool, change func(n *api.Node)) {
	t.Helper()
	checkHead(t, ops()[op]+": "+name, free, bound, func(f *api.Graph) { change(&f.Nodes[at(op)]) })
}

func number(n int) string { return strconv.Itoa(n) }

// around are numbers just inside and just outside those from 0 up to, but
// without, n.
func around(n int) []int {
	return []int{math.MinInt, -1 << 32, -2, -1, 0, n - 1, n, n + 1, 1 << 32, math.MaxInt}
}

func in(i, n int) bool { return 0 <= i && i < n }

func TestP7_1Examples(t *testing.T) {
	least := api.Graph{Keep: -1, Nodes: []api.Node{{Op: api.NRet, A: -1}}}
	check(t, "no places", api.Graphs{Funcs: []api.Graph{least}}, true, false)
	least.Nodes = append(least.Nodes, api.Node{Op: api.NConst, D: 0})
	check(t, "a NConst without places", api.Graphs{Funcs: []api.Graph{least}}, false, false)
	least.Kinds = make([]api.Kind, 1)
	check(t, "a NConst with a place", api.Graphs{Funcs: []api.Graph{least}}, true, false)
	least.Kinds = make([]api.Kind, 16)
	check(t, "a NConst with 16 places", api.Graphs{Funcs: []api.Graph{least}}, true, true)
	check(t, "everything", everything(), true, true)
}

func TestP7_1Graphs(t *testing.T) {
	check(t, "no graphs", api.Graphs{}, false, false)
	check(t, "an empty list of graphs", api.Graphs{Funcs: []api.Graph{}}, false, false)
	check(t, "a zero graph", api.Graphs{Funcs: make([]api.Graph, 1)}, false, false)
	for n := 1; n < 40; n++ {
		g := api.Graphs{}
		for range n {
			g.Funcs = append(g.Funcs, graph(0, false))
		}
		check(t, number(n)+" graphs", g, n <= 16, n <= 16)
		g.Funcs[n-1].Entry = -1
		check(t, number(n)+" graphs, whose last one is not valid", g, false, false)
	}
}

func TestP7_1FirstGraph(t *testing.T) {
	for params := range 5 {
		for _, result := range []bool{false, true} {
			g := api.Graphs{Funcs: []api.Graph{graph(params, result), graph(params, result)}}
			valid := params == 0 && !result
			check(t, "a first graph with "+number(params)+" parameters", g, valid, valid)
			g.Funcs[0] = graph(0, false)
			check(t, "a second graph with "+number(params)+" parameters", g, true, true)
		}
	}
}

func TestP7_1Kinds(t *testing.T) {
	for _, n := range []int{0, 1, 6, 7, 15, 16, 17, 20, 1023, 1024, 1025, 2000} {
		checkHead(t, number(n)+" kinds", in(n, 1025) && n > 6, in(n, 1025) && n > 15, func(f *api.Graph) { f.Kinds = kindsOf(n) })
	}
	for _, n := range []int{0, 1, 14, 15, 16, 17, 1023, 1024, 1025} {
		f := graph(0, false)
		f.Nodes = []api.Node{{Op: api.NRet, A: -1}}
		f.Kinds = kindsOf(n)
		check(t, "a graph that uses none of "+number(n)+" kinds", api.Graphs{Funcs: []api.Graph{f}}, n <= 1024, in(n-16, 1009))
	}
	for _, place := range []int{0, 1, 10, 16, 19} {
		for k := range 256 {
			valid := k == place%2
			unused := place > 6
			checkHead(t, "place "+number(place)+" of kind "+number(k), valid || unused && k < 2, k < 2, func(f *api.Graph) {
				f.Kinds[place] = api.Kind(k)
			})
		}
	}
}

func TestP7_1HowManyParams(t *testing.T) {
	for n := range 20 {
		g := everything()
		g.Funcs[receiver] = graph(n, false)
		g.Funcs[subject].Nodes[at(api.NDefer)].Args = graph(n, false).Params
		check(t, number(n)+" parameters", g, n <= 4, n <= 4)
	}
}

func TestP7_1Params(t *testing.T) {
	list := []struct {
		params      []int
		free, bound bool
	}{
		{[]int{0, 1}, true, true},
		{[]int{2, 1}, true, false},
		{[]int{18, 19}, true, false},
		{[]int{0, 5}, true, false},
		{[]int{0, 20}, false, false},
		{[]int{0, 21}, false, false},
		{[]int{20, 1}, false, false},
		{[]int{0, -1}, false, false},
		{[]int{-1, 1}, false, false},
		{[]int{-1, 0}, false, false},
		{[]int{0, math.MinInt}, false, false},
		{[]int{0, math.MaxInt}, false, false},
		{[]int{0, 1 + 1<<32}, false, false},
		{[]int{0, 0}, false, false},
		{[]int{1, 1}, false, false},
		{[]int{0}, false, false},
		{nil, false, false},
		{[]int{0, 1, 2}, false, false},
		// The node NCall's Args are a number and a pointer.
		{[]int{1, 0}, false, false},
		{[]int{0, 2}, false, false},
	}
	for _, x := range list {
		checkHead(t, "parameters that are called", x.free, x.bound, func(f *api.Graph) {
			f.Params = x.params
		})
	}
}

func TestP7_1ParamsNotCalled(t *testing.T) {
	list := []struct {
		params      []int
		free, bound bool
	}{
		{[]int{0, 1, 2, 3}, true, true},
		{[]int{0, 1, 3, 2}, true, false},
		{[]int{3, 2, 1, 0}, true, false},
		{[]int{1, 2, 3, 4}, true, false},
		{[]int{19, 0, 7, 12}, true, false},
		{[]int{19, 0, 20, 12}, false, false},
		{[]int{0, 1, 2, -1}, false, false},
		{[]int{0, 1, 2, 2}, false, false},
		{[]int{0, 1, 2, 0}, false, false},
		{[]int{0, 0, 1, 2}, false, false},
		{[]int{5, 9, 5, 2}, false, false},
		{[]int{5, 9, 9, 2}, false, false},
		{[]int{5, 9, 2, 9}, false, false},
		{[]int{0, 1, 2, 3, 4}, false, false},
		{[]int{0, 1, 2}, true, true},
		{[]int{0}, true, true},
		{[]int{1}, true, false},
		{[]int{-1}, false, false},
		{[]int{20}, false, false},
		{nil, true, true},
	}
	for _, x := range list {
		f := graph(len(x.params), false)
		f.Params = x.params
		check(t, "parameters", api.Graphs{Funcs: []api.Graph{graph(0, false), f}}, x.free, x.bound)
	}
}

func TestP7_1Init(t *testing.T) {
	list := []struct {
		init        []int
		free, bound bool
	}{
		{[]int{-1, -1}, true, true},
		{[]int{0, -1}, true, true},
		{[]int{1, -1}, true, true},
		{[]int{2, -1}, true, true},
		{[]int{3, -1}, false, false},
		{[]int{4, -1}, false, false},
		{[]int{math.MaxInt, -1}, false, false},
		{[]int{-2, -1}, false, false},
		{[]int{-3, -1}, false, false},
		{[]int{-1, -2}, false, false},
		{[]int{math.MinInt, -1}, false, false},
		// Of a parameter that is a pointer; read bound, kinds are not checked.
		{[]int{-1, 0}, false, true},
		{[]int{-1, 2}, false, true},
		{[]int{-1, 3}, false, false},
		{[]int{2, 2}, false, true},
		{nil, false, false},
		{[]int{}, false, false},
		{[]int{-1}, false, false},
		{[]int{2}, false, false},
		{[]int{-1, -1, -1}, false, false},
		{[]int{2, -1, -1, -1}, false, false},
	}
	for _, x := range list {
		checkHead(t, "Init", x.free, x.bound, func(f *api.Graph) { f.Init = x.init })
	}
	for n := range 6 {
		f := graph(0, false)
		f.Init = graph(n, false).Init
		check(t, number(n)+" Init of no parameters", api.Graphs{Funcs: []api.Graph{f}}, n == 0, n == 0)
	}
}

func TestP7_1InitOfSeveral(t *testing.T) {
	f := graph(4, false)
	f.Params = []int{6, 3, 2, 0}
	f.Init = []int{1, -1, 1, 0}
	g := api.Graphs{Funcs: []api.Graph{graph(0, false), f}}
	check(t, "two parameters with one cell", g, true, false)
	f.Params[2] = 5
	check(t, "a cell for the third parameter, a pointer", g, false, false)
	f.Params[2], f.Params[1] = 3, 2
	check(t, "a pointer in place 3", g, false, false)
	f.Init[2] = -1
	check(t, "no cell for it", g, true, false)
	g.Funcs[1].Cells = 0
	check(t, "no cells", g, false, false)
}

func TestP7_1Cells(t *testing.T) {
	for _, n := range []int{math.MinInt, -1, 0, 1, 2, 3, 4, 63, 64, 65, 66, 1000, math.MaxInt} {
		valid := n >= 3 && n <= 64 // everything uses 3
		checkHead(t, number(n)+" cells", valid, valid, func(f *api.Graph) { f.Cells = n })
		f := graph(0, false)
		f.Cells = n
		valid = n >= 0 && n <= 64
		check(t, number(n)+" cells, none of which is used", api.Graphs{Funcs: []api.Graph{f}}, valid, valid)
	}
}

func TestP7_1Keep(t *testing.T) {
	for _, keep := range around(3) {
		valid := keep == -1 || in(keep, 3)
		checkHead(t, "Keep "+number(keep), valid, valid, func(f *api.Graph) { f.Keep = keep })
	}
	for _, cells := range []int{0, 1, 64} {
		for _, keep := range around(cells) {
			f := graph(0, false)
			f.Cells, f.Keep = cells, keep
			valid := keep == -1 || in(keep, cells)
			check(t, number(cells)+" cells, Keep "+number(keep), api.Graphs{Funcs: []api.Graph{f}}, valid, valid)
		}
	}
}

func TestP7_1HowManyNodes(t *testing.T) {
	for _, n := range []int{0, 1, 2, 4095, 4096, 4097, 5000} {
		f := graph(0, false)
		f.Nodes = make([]api.Node, n)
		for i := range f.Nodes {
			f.Nodes[i] = api.Node{Op: api.NNop, Next: i}
		}
		valid := n >= 1 && n <= 4096
		check(t, number(n)+" nodes", api.Graphs{Funcs: []api.Graph{f}}, valid, valid)
		f.Entry = n - 1
		check(t, number(n)+" nodes, from the last one", api.Graphs{Funcs: []api.Graph{f}}, valid, valid)
		f.Entry = n
		check(t, number(n)+" nodes, from behind them", api.Graphs{Funcs: []api.Graph{f}}, false, false)
	}
}

func TestP7_1Entry(t *testing.T) {
	for _, entry := range around(18) {
		checkHead(t, "Entry "+number(entry), in(entry, 18), in(entry, 18), func(f *api.Graph) { f.Entry = entry })
	}
}

func TestP7_1EveryGraphAndNodeCounts(t *testing.T) {
	for i := range everything().Funcs {
		for j := range everything().Funcs[i].Nodes {
			checkChanged(t, "a node without an operation", false, false, func(g *api.Graphs) { g.Funcs[i].Nodes[j] = api.Node{} })
		}
		checkChanged(t, "a graph with a wrong Keep", false, false, func(g *api.Graphs) { g.Funcs[i].Keep = -2 })
		checkChanged(t, "a graph without nodes", false, false, func(g *api.Graphs) { g.Funcs[i].Nodes = nil })
		checkChanged(t, "a zero graph", false, false, func(g *api.Graphs) { g.Funcs[i] = api.Graph{} })
	}
}

// placeFields are the fields of each operation that are places, but those of NCall, NDefer
// and NRet, which have rules of their own: what is written, then what is read, n
// for a number, p for a pointer.
func placeFields() map[api.NodeOp]string {
	return map[api.NodeOp]string{
		api.NConst: "Dn", api.NMove: "Dp Ap", api.NBin: "Dn An Bn", api.NCellGet: "Dn", api.NCellSet: "An",
		api.NAddr: "Dp", api.NLoad: "Dn Ap", api.NStore: "Ap Bn", api.NBranch: "An", api.NNop: "",
		api.NPanic: "An", api.NRecover: "Dn En", api.NIn: "Dn", api.NOut: "An", api.NExit: "An",
	}
}

func field(n *api.Node, name byte) *int {
	switch name {
	case 'D':
		return &n.D
	case 'E':
		return &n.E
	case 'A':
		return &n.A
	case 'B':
		return &n.B
	case 'F':
		return &n.F
	case 'C':
		return &n.Cell
	case 'N':
		return &n.Next
	}
	return &n.Else
}

func TestP7_1Places(t *testing.T) {
	numbers := slices.Concat(around(20), []int{1, 3, 5, 6, 8, 9, 14, 15, 16, 17, 18})
	for op, fields := range placeFields() {
		for i := 0; i < len(fields); i += 3 {
			name, kind := fields[i], fields[i+1]
			for _, p := range numbers {
				free := in(p, 20) && (p%2 == 1) == (kind == 'p')
				checkOp(t, op, string(name)+" "+number(p), free, in(p, 20), func(n *api.Node) { *field(n, name) = p })
			}
		}
	}
}

func TestP7_1Move(t *testing.T) {
	for d := range 20 {
		for a := range 20 {
			checkOp(t, api.NMove, number(d)+" from "+number(a), d%2 == a%2, true, func(n *api.Node) { n.D, n.A = d, a })
		}
	}
	for _, p := range []int{-1, 20} {
		checkOp(t, api.NMove, "a place that does not exist to itself", false, false, func(n *api.Node) { n.D, n.A = p, p })
	}
}

func TestP7_1Cell(t *testing.T) {
	for _, op := range []api.NodeOp{api.NCellGet, api.NCellSet, api.NAddr} {
		for _, cell := range append(around(3), 1) {
			checkOp(t, op, "cell "+number(cell), in(cell, 3), in(cell, 3), func(n *api.Node) { n.Cell = cell })
		}
		checkHead(t, ops()[op]+" without cells", false, false, func(f *api.Graph) {
			f.Nodes = []api.Node{f.Nodes[at(op)], {Op: api.NExit, A: 2}}
			f.Nodes[0].Cell, f.Nodes[0].Next = 0, 1
			f.Cells, f.Keep, f.Init = 0, -1, []int{-1, -1}
		})
	}
}

func TestP7_1By(t *testing.T) {
	for by := range 256 {
		valid := by >= 7 && by <= 20
		checkOp(t, api.NBin, "By "+number(by), valid, valid, func(n *api.Node) { n.By = api.Op(by) })
	}
}

func TestP7_1Next(t *testing.T) {
	for op, name := range ops() {
		ends := op == api.NRet || op == api.NPanic || op == api.NExit
		for _, next := range append(around(18), 1, at(op)) {
			valid := ends || in(next, 18)
			checkHead(t, name+": Next "+number(next), valid, valid, func(f *api.Graph) { f.Nodes[at(op)].Next = next })
			valid = op != api.NBranch || in(next, 18)
			checkHead(t, name+": Else "+number(next), valid, valid, func(f *api.Graph) { f.Nodes[at(op)].Else = next })
			valid = ends || in(next, 18)
			checkHead(t, name+": Next and Else "+number(next), valid, valid, func(f *api.Graph) {
				f.Nodes[at(op)].Next, f.Nodes[at(op)].Else = next, next
			})
		}
	}
}

func TestP7_1Operations(t *testing.T) {
	for op := range 256 {
		_, exists := ops()[api.NodeOp(op)]
		n := api.Node{Op: api.NodeOp(op), By: api.Sub, D: 1, E: 4, A: 3, B: 2, F: nothing, Cell: 1, Next: 1, Else: 1}
		switch n.Op {
		case api.NConst, api.NCellGet, api.NLoad, api.NRecover, api.NIn:
			n.D = 0
		case api.NBin:
			n.D, n.A = 0, 0
		case api.NCellSet, api.NBranch, api.NOut, api.NPanic, api.NExit:
			n.A = 0
		case api.NCall:
			n.D = -1
		case api.NRet:
			n.A = -1
		}
		g := everything()
		g.Funcs[0] = graph(0, false, n)
		check(t, "operation "+number(op), g, exists, exists)
	}
}

func TestP7_1UnusedFields(t *testing.T) {
	used := placeFields()
	used[api.NCellGet] += " C"
	used[api.NCellSet] += " C"
	used[api.NAddr] += " C"
	used[api.NCall] = "D F"
	used[api.NDefer] = "F"
	used[api.NRet] = "A"
	for op := range ops() {
		uses := map[byte]int{}
		for _, c := range []byte(used[op]) {
			uses[c]++
		}
		for _, v := range []int{math.MinInt, -2, -1, 0, 1, 1000, math.MaxInt} {
			checkOp(t, op, "unused fields are "+number(v), true, true, func(n *api.Node) {
				for _, f := range []byte("DEABFC") {
					if uses[f] == 0 {
						*field(n, f) = v
					}
				}
				n.Imm = uint64(v)
				if op != api.NBin {
					n.By = api.Op(v)
				}
				if op != api.NCall && op != api.NDefer {
					n.Args = []int{v, v, v, v, v, v}
				}
				if op == api.NRet || op == api.NPanic || op == api.NExit {
					n.Next = v
				}
				if op != api.NBranch {
					n.Else = v
				}
			})
		}
	}
}

func TestP7_1Functions(t *testing.T) {
	for _, op := range []api.NodeOp{api.NCall, api.NDefer} {
		for _, f := range append(around(6), 1, 2, 3, 4) {
			for params := range 6 {
				valid := in(f, 6) && params == []int{0, 2, 0, 4, 1, 2}[f]
				checkOp(t, op, number(params)+" Args for "+number(f), valid, valid, func(n *api.Node) {
					n.D, n.F, n.Args = -1, f, graph(params, false).Params
				})
			}
		}
	}
}

func TestP7_1Args(t *testing.T) {
	list := []struct {
		f           int
		args        []int
		free, bound bool
	}{
		{subject, []int{0, 1}, true, true},
		{subject, []int{18, 19}, true, false},
		{subject, []int{0, 3}, true, false},
		{subject, []int{2, 1}, true, false},
		{subject, []int{1, 0}, false, false},
		{subject, []int{0, 2}, false, false},
		{subject, []int{1, 1}, false, false},
		{subject, []int{0, 0}, false, false},
		{subject, []int{0}, false, false},
		{subject, nil, false, false},
		{subject, []int{0, 1, 2}, false, false},
		{subject, []int{0, -1}, false, false},
		{subject, []int{-1, 1}, false, false},
		{subject, []int{20, 1}, false, false},
		{subject, []int{0, 21}, false, false},
		{subject, []int{0, math.MaxInt}, false, false},
		{subject, []int{math.MinInt, 1}, false, false},
		{receiver, []int{0, 1, 2, 3}, true, true},
		{receiver, []int{6, 5, 6, 5}, true, false},
		{receiver, []int{0, 1, 3, 2}, false, false},
		{receiver, []int{0, 1, 2, 4}, false, false},
		{receiver, []int{0, 1, 2, 20}, false, false},
		{receiver, []int{0, 1, 2, -1}, false, false},
		{receiver, []int{0, 1, 2}, false, false},
		{receiver, []int{0, 1, 2, 3, 4}, false, false},
		{nothing, nil, true, true},
		{nothing, []int{}, true, true},
		{nothing, []int{0}, false, false},
		{nothing, []int{-1}, false, false},
		{answerer, []int{0}, true, true},
		{answerer, []int{2}, true, false},
		{answerer, []int{1}, false, false},
	}
	for _, op := range []api.NodeOp{api.NCall, api.NDefer} {
		for _, x := range list {
			checkOp(t, op, "Args", x.free, x.bound, func(n *api.Node) { n.D, n.F, n.Args = -1, x.f, x.args })
		}
	}
}

// The kinds of Args are those of the places that the called graph's parameters
// are, not those of its first places.
func TestP7_1ArgsAndParamsElsewhere(t *testing.T) {
	for _, op := range []api.NodeOp{api.NCall, api.NDefer} {
		for _, x := range []struct {
			params, args []int
			free         bool
		}{
			{[]int{0, 1}, []int{0, 1}, true},
			{[]int{3, 4}, []int{1, 2}, true},
			{[]int{3, 4}, []int{0, 1}, false},
			{[]int{5, 7}, []int{1, 1}, true},
			{[]int{5, 7}, []int{0, 1}, false},
			{[]int{5, 7}, []int{1, 2}, false},
			{[]int{6, 2}, []int{2, 2}, true},
			{[]int{19, 18}, []int{3, 0}, true},
			{[]int{19, 18}, []int{3, 3}, false},
		} {
			g := everything()
			g.Funcs[last].Params = x.params
			n := &g.Funcs[subject].Nodes[at(op)]
			n.D, n.F, n.Args = -1, last, x.args
			check(t, "Args and parameters that are other places", g, x.free, x.params[0] == 0)
		}
	}
}

// The called graph has places that the calling one has not, and the other way round.
func TestP7_1PlacesAreAGraphsOwn(t *testing.T) {
	small, great := graph(1, false), graph(1, false)
	small.Kinds, great.Kinds = kindsOf(3), kindsOf(30)
	great.Params[0] = 29
	small.Nodes = []api.Node{{Op: api.NDefer, F: 2, Args: []int{1}, Next: 1}, {Op: api.NExit, A: 0}}
	great.Nodes = []api.Node{{Op: api.NDefer, F: 1, Args: []int{28}, Next: 1}, {Op: api.NExit, A: 28}}
	g := api.Graphs{Funcs: []api.Graph{graph(0, false), small, great}}
	check(t, "graphs with different numbers of places", g, true, false)
	small.Nodes[0].Args[0] = 29
	check(t, "a place that only the called graph has", g, false, false)
}

func TestP7_1PlaceOfCall(t *testing.T) {
	for _, d := range append(around(20), 1, 2, 3, 14, 16, 18) {
		even := in(d, 20) && d%2 == 0
		checkOp(t, api.NCall, "D "+number(d)+", a result", d == -1 || even, d == -1 || d == 0, func(n *api.Node) { n.D = d })
		checkOp(t, api.NCall, "D "+number(d)+", no result", d == -1, d == -1, func(n *api.Node) {
			n.D, n.F, n.Args = d, nothing, nil
		})
		checkOp(t, api.NDefer, "D "+number(d), true, true, func(n *api.Node) { n.D = d })
	}
	checkOp(t, api.NDefer, "of a function with a result", true, true, func(n *api.Node) { n.F, n.Args = answerer, []int{0} })
}

func TestP7_1Return(t *testing.T) {
	for _, a := range append(around(20), 1, 2, 3, 18) {
		checkOp(t, api.NRet, "A "+number(a)+", a result", in(a, 20) && a%2 == 0, in(a, 20), func(n *api.Node) { n.A = a })
		g := api.Graphs{Funcs: []api.Graph{graph(0, false, api.Node{Op: api.NRet, A: a})}}
		check(t, "NRet: A "+number(a)+", no result", g, a == -1, a == -1)
	}
}

func TestP7_1Recover(t *testing.T) {
	for d := -1; d <= 20; d++ {
		for e := -1; e <= 20; e++ {
			exist := in(d, 20) && in(e, 20) && d != e
			checkOp(t, api.NRecover, number(d)+" and "+number(e), exist && d%2 == 0 && e%2 == 0, exist, func(n *api.Node) {
				n.D, n.E = d, e
			})
		}
	}
}

// Read bound no kind of a place matters, as long as it is one.
func TestP7_1BoundKinds(t *testing.T) {
	for _, kind := range []api.Kind{api.Num, api.Ptr} {
		g := everything()
		for i := range g.Funcs {
			for j := range g.Funcs[i].Kinds {
				g.Funcs[i].Kinds[j] = kind
			}
		}
		check(t, "all places are of one kind", g, false, true)
	}
	for _, k := range []api.Kind{2, 3, 128, 255} {
		for i := range everything().Funcs {
			for j := range 20 {
				checkChanged(t, "a kind that is none", false, false, func(g *api.Graphs) { g.Funcs[i].Kinds[j] = k })
			}
		}
	}
}

func TestP7_1GreatNumbers(t *testing.T) {
	for _, v := range []int{math.MinInt, math.MinInt32, math.MaxInt32, math.MaxInt} {
		for op := range 20 {
			n := api.Node{Op: api.NodeOp(op), By: api.Add, D: v, E: v, A: v, B: v, F: v, Cell: v, Args: []int{v, v}, Next: v, Else: v}
			f := api.Graph{Params: []int{v}, Kinds: kindsOf(20), Cells: v, Init: []int{v}, Keep: v, Nodes: []api.Node{n}, Entry: v}
			check(t, "great numbers", api.Graphs{Funcs: []api.Graph{f}}, false, false)
			check(t, "great numbers in a node", api.Graphs{Funcs: []api.Graph{graph(0, false, n)}}, false, false)
			check(t, "great numbers in a head", api.Graphs{Funcs: []api.Graph{graph(0, false), f}}, false, false)
		}
	}
}

// A place of a graph that is not valid is asked for by a call in an earlier one.
func TestP7_1CallOfNotValid(t *testing.T) {
	for _, params := range [][]int{{-1}, {20}, {0, 0}, {math.MaxInt}, {0, 1, 2, 3, 4}} {
		for _, op := range []api.NodeOp{api.NCall, api.NDefer} {
			f := graph(len(params), false)
			f.Params = params
			n := api.Node{Op: op, D: -1, F: 1, Args: graph(len(params), false).Params, Next: 1}
			g := api.Graphs{Funcs: []api.Graph{graph(0, false, n), f}}
			check(t, "a call of a graph with wrong parameters", g, false, false)
		}
	}
}

func TestP7_1LongLists(t *testing.T) {
	long := make([]int, 1<<20)
	for i := range long {
		long[i] = i
	}
	checkHead(t, "many parameters", false, false, func(f *api.Graph) { f.Params, f.Init = long, long })
	checkHead(t, "many Init", false, false, func(f *api.Graph) { f.Init = long })
	for _, op := range []api.NodeOp{api.NCall, api.NDefer} {
		checkOp(t, op, "many Args", false, false, func(n *api.Node) { n.Args = long })
	}
	checkOp(t, api.NNop, "many Args", true, true, func(n *api.Node) { n.Args = long })
	checkHead(t, "many kinds", false, false, func(f *api.Graph) { f.Kinds = kindsOf(1 << 20) })
	checkHead(t, "many nodes", false, false, func(f *api.Graph) { f.Nodes = make([]api.Node, 1<<18) })
	checkChanged(t, "many graphs", false, false, func(g *api.Graphs) { g.Funcs = make([]api.Graph, 1<<16) })
}

func TestP7_1Greatest(t *testing.T) {
	g := api.Graphs{}
	for i := range 16 {
		f := graph(min(i, 4), i > 0)
		f.Kinds, f.Cells = kindsOf(1024), 64
		f.Nodes = make([]api.Node, 4096)
		for j := range f.Nodes {
			f.Nodes[j] = api.Node{Op: api.NDefer, F: 15, Args: []int{0, 1, 2, 3}, Next: 4095 - j}
		}
		g.Funcs = append(g.Funcs, f)
	}
	check(t, "the greatest program", g, true, true)
	g.Funcs[15].Nodes[4095].Next = 4096
	check(t, "the greatest program, whose last node is not right", g, false, false)
}

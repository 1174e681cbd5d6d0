package lower_test

import (
	"slices"
	"testing"

	"windlass/api"
	"windlass/lower"
	"windlass/samples"
)

const (
	twoNumbers  = 14 // a graph with two parameters, which are numbers
	fourOfKinds = 15 // a graph with four parameters, two of which are pointers, and a result
)

// great is as many graphs as there may be, each with as many places as it may
// have. One of them has nodes in a loop, and places of which the first ones are
// pointers.
func great(which int, nodes []api.Node, pointers int) api.Graphs {
	g := api.Graphs{Funcs: make([]api.Graph, api.MaxFuncs)}
	for i := range g.Funcs {
		g.Funcs[i] = api.Graph{Kinds: make([]api.Kind, api.MaxPlaces), Keep: -1, Nodes: []api.Node{{Op: api.NRet, A: -1}}}
	}
	g.Funcs[twoNumbers].Params, g.Funcs[twoNumbers].Init = []int{7, 3}, []int{-1, -1}
	last := &g.Funcs[fourOfKinds]
	last.Params, last.Init = []int{1023, 1, 1022, 0}, []int{-1, -1, -1, -1}
	last.Kinds[0], last.Kinds[1], last.Cells = api.Ptr, api.Ptr, 1
	last.Result, last.Nodes[0].A = true, 1022
	f := &g.Funcs[which]
	f.Nodes = slices.Clone(nodes)
	for i := range f.Nodes {
		f.Nodes[i].Next = (i + 1) % len(nodes)
	}
	for p := range pointers {
		f.Kinds[p] = api.Ptr
	}
	return g
}

// calls of function 14, so many, with two words that are in use throughout: each
// has to become three nodes or more. So many other nodes are ahead of them.
func calls(n, others int) []api.Node {
	list := []api.Node{{Op: api.NIn, D: 2}, {Op: api.NIn, D: 9}}
	for len(list) < others {
		list = append(list, api.Node{Op: api.NNop})
	}
	for range n {
		list = append(list, api.Node{Op: api.NCall, F: twoNumbers, D: -1, Args: []int{2, 9}})
	}
	return append(list, api.Node{Op: api.NOut, A: 2}, api.Node{Op: api.NOut, A: 9})
}

// TestP15_1TooManyNodes: 4096 are not, 4097 are, in each graph.
func TestP15_1TooManyNodes(t *testing.T) {
	for which := range twoNumbers {
		lowered(t, great(which, calls(1364, 2), 0))
		answers(t, "4097 nodes", great(which, calls(1364, 3), 0), api.ErrBig)
	}
	for _, x := range []struct {
		calls, others int
		want          api.Errno
	}{
		{1363, 5, api.OK}, {1363, 6, api.ErrBig}, {1365, 2, api.ErrBig}, {1000, 1094, api.OK}, {1000, 1095, api.ErrBig},
		{2, 4088, api.OK}, {2, 4089, api.ErrBig}, {4000, 2, api.ErrBig}, {4092, 2, api.ErrBig},
	} {
		answers(t, "calls", great(3, calls(x.calls, x.others), 0), x.want)
	}
}

// TestP15_1AllNodes: as many as there may be become as many.
func TestP15_1AllNodes(t *testing.T) {
	for _, node := range []api.Node{{Op: api.NNop}, {Op: api.NMove, D: 8, A: 9}, {Op: api.NOut, A: 9}, {Op: api.NCall, F: 2, D: -1}, {Op: api.NBranch, A: 9, Else: 5}} {
		nodes := slices.Repeat([]api.Node{node}, api.MaxNodes)
		nodes[0] = api.Node{Op: api.NIn, D: 9}
		b, _ := lowered(t, great(5, nodes, 0))
		if n := len(b.Funcs[5].Nodes); n != api.MaxNodes {
			t.Errorf("%v: there are %d", node, n)
		}
	}
}

// crowded nodes have the first n places in use at one node.
func crowded(n, pointers int, between api.Node) []api.Node {
	var list []api.Node
	for p := range n {
		if p < pointers {
			list = append(list, api.Node{Op: api.NAddr, D: p})
		} else {
			list = append(list, api.Node{Op: api.NIn, D: p})
		}
	}
	list = append(list, between)
	for p := range n {
		if p < pointers {
			list = append(list, api.Node{Op: api.NStore, A: p, B: 1023})
		} else {
			list = append(list, api.Node{Op: api.NOut, A: p})
		}
	}
	return list
}

// TestP15_1TooManyPlaces: 1008 slots are not, 1009 are. Twelve places may have
// registers, six over a call, but no pointers.
func TestP15_1TooManyPlaces(t *testing.T) {
	call, deferral, nothing := api.Node{Op: api.NCall, F: 2, D: -1}, api.Node{Op: api.NDefer, F: 2}, api.Node{Op: api.NNop}
	for _, x := range []struct {
		n, pointers int
		between     api.Node
		want        api.Errno
	}{
		{1020, 0, nothing, api.OK}, {1021, 0, nothing, api.ErrBig}, {1024, 0, nothing, api.ErrBig},
		{1014, 0, call, api.OK}, {1015, 0, call, api.ErrBig}, {1024, 0, call, api.ErrBig},
		{1014, 0, deferral, api.OK}, {1015, 0, deferral, api.ErrBig},
	} {
		for which := range api.MaxFuncs - 2 {
			if x.n > 1014 && which%5 > 0 {
				continue
			}
			g := great(which, crowded(x.n, x.pointers, x.between), x.pointers)
			answers(t, "crowded", g, x.want)
			if x.want == api.OK && which == 5 {
				lowered(t, g)
			}
		}
	}
	// Place 1023 is in use, too, where there are pointers: it is read at first.
	for _, x := range []struct {
		n, pointers int
		between     api.Node
		want        api.Errno
	}{
		{1008, 1008, call, api.OK}, {1009, 1009, call, api.ErrBig}, {1023, 1023, call, api.ErrBig},
		{1008, 1008, deferral, api.OK}, {1009, 1009, deferral, api.ErrBig},
		{1013, 500, call, api.OK}, {1014, 500, call, api.ErrBig}, {1013, 1, deferral, api.OK}, {1014, 1, deferral, api.ErrBig},
		{1019, 500, nothing, api.OK}, {1020, 500, nothing, api.ErrBig}, {1019, 1019, nothing, api.OK}, {1020, 1020, nothing, api.ErrBig},
	} {
		g := great(5, crowded(x.n, x.pointers, x.between), x.pointers)
		g.Funcs[5].Cells = 1
		answers(t, "crowded, with pointers", g, x.want)
		if x.want == api.OK {
			lowered(t, g)
		}
	}
}

// TestP15_2SmallIsNotTooBig: 150 nodes of which nearly all are calls, each with
// four arguments, of places that are in use throughout, or of ever other ones.
func TestP15_2SmallIsNotTooBig(t *testing.T) {
	m := samples.New(71)
	for _, places := range []int{2, 4, 8, 16, 64, 512} {
		for round := range 6 {
			var nodes []api.Node
			for i := range 150 {
				n := api.Node{Op: api.NCall, F: fourOfKinds, D: places + i%places}
				if round%2 > 0 && i%2 > 0 {
					n.Op = api.NDefer
				}
				for k := range 4 {
					// Numbers first, and pointers.
					p := m.Roll(places)
					if round > 3 {
						p = (4*i + k) % places
					}
					n.Args = append(n.Args, p)
				}
				n.Args[0] += places
				n.Args[2] += places
				nodes = append(nodes, n)
			}
			var g api.Graphs
			for which := range fourOfKinds {
				one := great(which, nodes, places)
				if which == 0 {
					g = one
				}
				g.Funcs[which] = one.Funcs[which]
			}
			answers(t, "150 nodes", g, api.OK)
			one := great(3, nodes, places)
			lowered(t, one)
			behaves(t, one, nil, 0, 10, 1000)
		}
	}
}

// TestP15_2SmallCrowds: other graphs of at most 150 nodes.
func TestP15_2SmallCrowds(t *testing.T) {
	m := samples.New(72)
	for i := range 200 {
		g := m.Sparse(150, 2+m.Roll(1022))
		g.Funcs[0].Entry = m.Roll(150)
		answers(t, "sparse", g, api.OK)
		g = m.Crowded(samples.Crowd{Nodes: 60, Width: 1 + m.Roll(60), Pointers: true, Held: true})
		if len(g.Funcs[0].Nodes) <= 150 {
			answers(t, "crowded", g, api.OK)
		}
		if i%10 == 0 {
			lowered(t, g)
		}
	}
}

// TestP15_1AllGraphs: all graphs have all nodes and places that they may have, and
// all places are in use at all nodes.
func TestP15_1AllGraphs(t *testing.T) {
	m := samples.New(73)
	f := api.Graph{Kinds: make([]api.Kind, 1020), Keep: -1}
	for i := range 4080 {
		f.Nodes = append(f.Nodes, api.Node{Op: api.NBranch, A: i % 1020, Next: (i + 1) % 4080, Else: m.Roll(4080)})
	}
	g := api.Graphs{Funcs: slices.Repeat([]api.Graph{f}, api.MaxFuncs)}
	b, _, e := lower.Lower(g)
	if e != api.OK || len(b.Funcs) != api.MaxFuncs {
		t.Fatalf("%d graphs, and %d", len(b.Funcs), int(e))
	}
	g.Funcs = g.Funcs[:1]
	lowered(t, g)
}

package scan_test

import (
	"testing"

	"windlass/api"
	"windlass/samples"
)

const (
	lastGraph = api.MaxFuncs - 1
	lastNode  = api.MaxNodes - 1
)

// writing a place, whatever its kind.
func writing(kind api.Kind, p int) api.Node {
	if kind == api.Ptr {
		return api.Node{Op: api.NAddr, D: p}
	}
	return api.Node{Op: api.NIn, D: p}
}

func reading(kind api.Kind, p int) api.Node {
	if kind == api.Ptr {
		return api.Node{Op: api.NMove, D: p, A: p}
	}
	return api.Node{Op: api.NOut, A: p}
}

// great graphs, of which the last one has nodes in a line, as many as there may
// be, and places of such kinds, as many as there may be.
func great(kindOf func(p int) api.Kind, nodes []api.Node) api.Graphs {
	g := samples.GreatGraphs(func(i int) api.Node {
		n := api.Node{Op: api.NNop}
		switch {
		case i == lastNode:
			n = api.Node{Op: api.NRet, A: -1}
		case i < len(nodes):
			n = nodes[i]
		}
		n.Next = i + 1
		return n
	})
	f := &g.Funcs[lastGraph]
	f.Cells = 1
	for p := range f.Kinds {
		f.Kinds[p] = kindOf(p)
	}
	return g
}

// TestP13_1GreatCrowd: all places are in use at one time.
func TestP13_1GreatCrowd(t *testing.T) {
	for _, between := range []api.Node{{Op: api.NNop}, {Op: api.NCall, F: 3, D: -1}, {Op: api.NDefer, F: 3}} {
		for _, kindOf := range []func(p int) api.Kind{
			func(int) api.Kind { return api.Num },
			func(int) api.Kind { return api.Ptr },
			func(p int) api.Kind { return api.Kind(p % 2) },
			func(p int) api.Kind { return api.Kind(p / 512) },
		} {
			var nodes []api.Node
			for p := range api.MaxPlaces {
				nodes = append(nodes, writing(kindOf(p), p))
			}
			nodes = append(nodes, between)
			for p := range api.MaxPlaces {
				nodes = append(nodes, reading(kindOf(p), p))
			}
			seen := map[int]bool{}
			for _, b := range assigned(t, great(kindOf, nodes), lastGraph) {
				seen[b] = true
			}
			if len(seen) != api.MaxPlaces {
				t.Errorf("%v: %d places have %d bound ones", between, api.MaxPlaces, len(seen))
			}
		}
	}
}

// TestP13_2GreatLine: of all places six are in use at each position.
func TestP13_2GreatLine(t *testing.T) {
	for _, call := range []api.Node{{Op: api.NNop}, {Op: api.NCall, F: 3, D: -1}} {
		var nodes []api.Node
		for p := range api.MaxPlaces {
			if p >= 6 {
				nodes = append(nodes, api.Node{Op: api.NOut, A: p - 6})
			}
			nodes = append(nodes, api.Node{Op: api.NIn, D: p}, call)
		}
		for p := api.MaxPlaces - 6; p < api.MaxPlaces; p++ {
			nodes = append(nodes, api.Node{Op: api.NOut, A: p})
		}
		g := great(func(int) api.Kind { return api.Num }, nodes)
		for p, b := range assigned(t, g, lastGraph) {
			if b < 0 || b >= 12 || call.Op == api.NCall && b < 6 {
				t.Errorf("%v: place %d has %d", call, p, b)
			}
		}
	}
}

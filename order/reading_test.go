package order_test

import (
	"slices"
	"testing"

	"windlass/api"
	"windlass/live"
)

// The second reading traverses nothing. A depth-first traversal comes to a node
// on the first path there: at each node on it the first way is taken by which
// the node can still be reached, over nodes that are not on the path yet. It
// leaves a node ahead of another one if the node is further along the same path,
// or if its path takes the first way where the other's takes the second one.

// waysOf each node, which may be the same.
func waysOf(f api.Graph) [][]int {
	ways := make([][]int, len(f.Nodes))
	for i, n := range f.Nodes {
		switch n.Op {
		case api.NRet, api.NPanic, api.NExit:
		case api.NBranch:
			ways[i] = []int{n.Next, n.Else}
		default:
			ways[i] = []int{n.Next}
		}
	}
	return ways
}

// leads reports whether a node can be reached from another one, over nodes that
// are not barred.
func leads(ways [][]int, from, to int, barred []bool) bool {
	seen := slices.Clone(barred)
	fringe := []int{from}
	for len(fringe) > 0 {
		var next []int
		for _, i := range fringe {
			if seen[i] {
				continue
			}
			seen[i] = true
			if i == to {
				return true
			}
			next = append(next, ways[i]...)
		}
		fringe = next
	}
	return false
}

// firstPath to a node, as the ways that are taken at the nodes of it; false if
// there is none.
func firstPath(ways [][]int, from, to int) ([]int, bool) {
	on := make([]bool, len(ways))
	if !leads(ways, from, to, on) {
		return nil, false
	}
	var taken []int
	for at := from; at != to; {
		on[at] = true
		k := slices.IndexFunc(ways[at], func(way int) bool { return leads(ways, way, to, on) })
		taken = append(taken, k)
		at = ways[at][k]
	}
	return taken, true
}

// isAhead tells, by the first paths to two nodes, which of them is ahead in the
// line: -1 for the first one.
func isAhead(a, b []int) int {
	for i := range min(len(a), len(b)) {
		if a[i] != b[i] {
			return b[i] - a[i]
		}
	}
	return len(a) - len(b)
}

// lineReading is the line of a graph.
func lineReading(f api.Graph) []int {
	ways := waysOf(f)
	paths := make([][]int, len(f.Nodes))
	var line []int
	for i := range f.Nodes {
		if path, ok := firstPath(ways, f.Entry, i); ok {
			paths[i] = path
			line = append(line, i)
		}
	}
	slices.SortFunc(line, func(a, b int) int { return isAhead(paths[a], paths[b]) })
	return line
}

// writesOf a node.
func writesOf(n api.Node) []int {
	switch n.Op {
	case api.NConst, api.NMove, api.NBin, api.NCellGet, api.NAddr, api.NLoad, api.NIn:
		return []int{n.D}
	case api.NRecover:
		return []int{n.D, n.E}
	case api.NCall:
		if n.D >= 0 {
			return []int{n.D}
		}
	}
	return nil
}

// spansReading are the intervals of a graph: of each place, all positions at
// which it is in use are listed.
func spansReading(t testing.TB, g api.Graphs, graph int, line []int) []api.Interval {
	t.Helper()
	f := g.Funcs[graph]
	at, e := live.In(g, graph)
	if e != api.OK {
		t.Fatalf("layer 11 returns %d for graph %d of %v", int(e), graph, g)
	}
	var spans []api.Interval
	for p := range f.Kinds {
		var in []int
		held := false
		for position, i := range line {
			n := f.Nodes[i]
			isParam := position == 0 && slices.Contains(f.Params, p)
			if isParam || slices.Contains(at[i], p) || slices.Contains(writesOf(n), p) {
				in = append(in, position)
			}
			if n.Op == api.NCall && n.D != p && slices.Contains(at[n.Next], p) || n.Op == api.NDefer && slices.Contains(at[n.Next], p) {
				held = true
			}
		}
		if len(in) > 0 {
			spans = append(spans, api.Interval{Place: p, From: slices.Min(in), To: slices.Max(in), Held: held})
		}
	}
	return spans
}

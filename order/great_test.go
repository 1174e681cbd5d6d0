package order_test

import (
	"slices"
	"testing"

	"windlass/api"
	"windlass/samples"
)

// last of the greatest graphs, and of their nodes.
const (
	lastGraph = api.MaxFuncs - 1
	lastNode  = api.MaxNodes - 1
)

// upTo are the numbers below n.
func upTo(n int) []int {
	list := make([]int, n)
	for i := range list {
		list[i] = i
	}
	return list
}

func checkGreat(t *testing.T, name string, g api.Graphs, line []int, spans []api.Interval) {
	t.Helper()
	if got := lineOf(t, g, lastGraph); !slices.Equal(got, line) {
		t.Fatalf("%s: the line is %v; want %v", name, got, line)
	}
	if got := spansOf(t, g, lastGraph); !slices.Equal(got, spans) {
		t.Fatalf("%s: the intervals are %s; want %s", name, toldSpans(got), toldSpans(spans))
	}
}

// straight is a graph of one line: each place is written, and all are read from
// the last one to the first one; between that is a node.
func straight(i int, between api.Node) api.Node {
	n := api.Node{Op: api.NNop}
	switch reader := lastNode - 1 - i; {
	case i == lastNode:
		n = api.Node{Op: api.NRet, A: -1}
	case i < api.MaxPlaces:
		n = api.Node{Op: api.NConst, D: i}
	case reader < api.MaxPlaces:
		n = api.Node{Op: api.NOut, A: reader}
	case i == 2000:
		n = between
	}
	return n
}

// TestP12_1GreatLine: the line has all nodes, whichever way their numbers go.
func TestP12_1GreatLine(t *testing.T) {
	for _, between := range []api.Node{{Op: api.NNop}, {Op: api.NCall, F: 3, D: -1}, {Op: api.NDefer, F: 3, D: 7}} {
		var spans []api.Interval
		for p := range api.MaxPlaces {
			spans = append(spans, api.Interval{Place: p, From: p, To: lastNode - 1 - p, Held: between.Op != api.NNop})
		}
		ahead := samples.GreatGraphs(func(i int) api.Node {
			n := straight(i, between)
			n.Next = i + 1
			return n
		})
		checkGreat(t, "ahead", ahead, upTo(api.MaxNodes), spans)
		back := samples.GreatGraphs(func(i int) api.Node {
			n := straight(lastNode-i, between)
			n.Next = i - 1
			return n
		})
		back.Funcs[lastGraph].Entry = lastNode
		line := upTo(api.MaxNodes)
		slices.Reverse(line)
		checkGreat(t, "back", back, line, spans)
	}
}

// everywhere are all places, in use along all of a line of so many nodes.
func everywhere(nodes int) []api.Interval {
	var spans []api.Interval
	for p := range api.MaxPlaces {
		spans = append(spans, api.Interval{Place: p, To: nodes - 1})
	}
	return spans
}

// TestP12_1GreatLoop: the first way goes around all nodes; where the second one
// leads does not matter then.
func TestP12_1GreatLoop(t *testing.T) {
	m := samples.New(41)
	for _, far := range []int{1, 2, 100, api.MaxNodes} {
		g := samples.GreatGraphs(func(i int) api.Node {
			return api.Node{Op: api.NBranch, A: i % api.MaxPlaces, Next: (i + 1) % api.MaxNodes, Else: (i + m.Roll(far)) % api.MaxNodes}
		})
		checkGreat(t, "a loop", g, upTo(api.MaxNodes), everywhere(api.MaxNodes))
	}
}

// TestP12_1GreatLadder: each node leads to the two behind it, whichever is first.
// There is one line in which no node is ahead of one that leads to it.
func TestP12_1GreatLadder(t *testing.T) {
	for _, steps := range [][2]int{{1, 2}, {2, 1}} {
		g := samples.GreatGraphs(func(i int) api.Node {
			if i == lastNode {
				return api.Node{Op: api.NRet, A: -1}
			}
			return api.Node{Op: api.NBranch, A: 5, Next: min(i+steps[0], lastNode), Else: min(i+steps[1], lastNode)}
		})
		checkGreat(t, "a ladder", g, upTo(api.MaxNodes), []api.Interval{{Place: 5, To: lastNode - 1}})
	}
}

// TestP12_1GreatTree: each node leads to two of its own.
func TestP12_1GreatTree(t *testing.T) {
	const inner = api.MaxNodes/2 - 1
	g := samples.GreatGraphs(func(i int) api.Node {
		if i < inner {
			return api.Node{Op: api.NBranch, A: 9, Next: 2*i + 1, Else: 2*i + 2}
		}
		return api.Node{Op: api.NExit, A: 10}
	})
	var line []int
	var grow func(i int)
	grow = func(i int) {
		line = append(line, i)
		if i < inner {
			grow(2*i + 2)
			grow(2*i + 1)
		}
	}
	grow(0)
	// The last inner node of the line has the two last ones behind it.
	checkGreat(t, "a tree", g, line, []api.Interval{{Place: 9, To: 2*inner - 2}, {Place: 10, To: 2 * inner}})
}

// TestP12_1GreatAny: nodes as they come; the order of some is held against the
// second reading.
func TestP12_1GreatAny(t *testing.T) {
	m := samples.New(42)
	loose := m.Sparse(api.MaxNodes, api.MaxPlaces).Funcs[0]
	g := samples.GreatGraphs(func(i int) api.Node {
		n := loose.Nodes[i]
		if n.Op == api.NExit && m.Roll(20) > 0 {
			n.Op = api.NBranch // or few nodes would be reachable
		}
		return n
	})
	f := g.Funcs[lastGraph]
	ways := waysOf(f)
	var some, reachable []int
	paths := map[int][]int{}
	none := make([]bool, len(ways))
	for i := range f.Nodes {
		if !leads(ways, f.Entry, i, none) {
			continue
		}
		reachable = append(reachable, i)
		if m.Roll(50) == 0 {
			some = append(some, i)
			paths[i], _ = firstPath(ways, f.Entry, i)
		}
	}
	slices.SortFunc(some, func(a, b int) int { return isAhead(paths[a], paths[b]) })
	line := lineOf(t, g, lastGraph)
	got := slices.DeleteFunc(slices.Clone(line), func(i int) bool { return !slices.Contains(some, i) })
	if len(some) < 20 || !slices.Equal(got, some) {
		t.Errorf("in the line there are %v in this order; the second reading says %v", got, some)
	}
	slices.Sort(line)
	if len(line) < api.MaxNodes/4 || !slices.Equal(line, reachable) {
		t.Errorf("the line has %d nodes, %d are reachable", len(line), len(reachable))
	}
}

package live_test

import (
	"slices"
	"strconv"
	"testing"

	"windlass/api"
	"windlass/samples"
)

// upTo are the numbers below n.
func upTo(n int) []int {
	list := make([]int, n)
	for i := range list {
		list[i] = i
	}
	return list
}

func checkList(t *testing.T, name string, node int, got, want []int) {
	t.Helper()
	if !slices.Equal(got, want) {
		t.Fatalf("%s: of node %d the places are %v; want %v", name, node, got, want)
	}
}

// TestP11_1GreatLine: all places are read one after the other, at a line's end,
// whichever way the line's numbers go.
func TestP11_1GreatLine(t *testing.T) {
	for _, name := range []string{"ahead", "back"} {
		number := func(i int) int { return i }
		if name == "back" {
			number = func(i int) int { return api.MaxNodes - 1 - i }
		}
		g := samples.GreatGraphs(func(k int) api.Node {
			i := number(k)
			if i == api.MaxNodes-1 {
				return api.Node{Op: api.NRet, A: -1}
			}
			if reader := i - (api.MaxNodes - 1 - api.MaxPlaces); reader >= 0 {
				return api.Node{Op: api.NOut, A: reader, Next: number(i + 1)}
			}
			return api.Node{Op: api.NNop, Next: number(i + 1)}
		})
		in, out := at(t, g, 15), after(t, g, 15)
		for i := range api.MaxNodes {
			first := max(0, i-(api.MaxNodes-1-api.MaxPlaces))
			checkList(t, name, i, in[number(i)], upTo(api.MaxPlaces)[first:])
			if i > 0 {
				checkList(t, name+", after", i-1, out[number(i-1)], upTo(api.MaxPlaces)[first:])
			}
		}
	}
}

// TestP11_1GreatLoops: every node is in a loop that reads all places, and most
// nodes come before two others.
func TestP11_1GreatLoops(t *testing.T) {
	m := samples.New(15)
	for _, far := range []int{1, 2, 100, api.MaxNodes - 1} {
		g := samples.GreatGraphs(func(i int) api.Node {
			return api.Node{Op: api.NBranch, A: i % api.MaxPlaces, Next: (i + 1) % api.MaxNodes, Else: (i + 1 + m.Roll(far)) % api.MaxNodes}
		})
		in, out := at(t, g, 15), after(t, g, 15)
		for i := range api.MaxNodes {
			checkList(t, "a step of up to "+strconv.Itoa(far), i, in[i], upTo(api.MaxPlaces))
			checkList(t, "a step of up to "+strconv.Itoa(far), i, out[i], upTo(api.MaxPlaces))
		}
	}
}

// TestP11_1GreatStar: nearly all nodes continue with one, or one place is read by
// nearly all nodes.
func TestP11_1GreatStar(t *testing.T) {
	g := samples.GreatGraphs(func(i int) api.Node {
		switch {
		case i == 0:
			return api.Node{Op: api.NRet, A: -1}
		case i <= api.MaxPlaces:
			return api.Node{Op: api.NOut, A: i - 1, Next: i - 1}
		case i%2 == 0:
			return api.Node{Op: api.NConst, D: i % api.MaxPlaces, Next: api.MaxPlaces}
		}
		return api.Node{Op: api.NOut, A: 7, Next: api.MaxPlaces}
	})
	in, out := at(t, g, 15), after(t, g, 15)
	for i := range api.MaxNodes {
		want := upTo(min(i, api.MaxPlaces))
		if i > api.MaxPlaces {
			checkList(t, "a star, after", i, out[i], want)
			if i%2 == 0 {
				want = slices.Delete(want, i%api.MaxPlaces, i%api.MaxPlaces+1)
			}
		}
		checkList(t, "a star", i, in[i], want)
	}
}

// TestP11_1GreatAny: nodes as they come; some of what is live is held against the
// second reading.
func TestP11_1GreatAny(t *testing.T) {
	m := samples.New(16)
	loose := m.Sparse(api.MaxNodes, api.MaxPlaces).Funcs[0]
	g := samples.GreatGraphs(func(i int) api.Node { return loose.Nodes[i] })
	in, out := at(t, g, 15), after(t, g, 15)
	uses := usesOf(loose)
	for range 300 {
		node, place := m.Roll(api.MaxNodes), m.Roll(api.MaxPlaces)
		if got, want := slices.Contains(in[node], place), reaches(uses, node, place); got != want {
			t.Fatalf("node %d and place %d: In says %v; the second reading says %v", node, place, got, want)
		}
		want := slices.ContainsFunc(uses[node].ways, func(way int) bool { return reaches(uses, way, place) })
		if got := slices.Contains(out[node], place); got != want {
			t.Fatalf("node %d and place %d: Out says %v; the second reading says %v", node, place, got, want)
		}
	}
}

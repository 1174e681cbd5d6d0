package samples

import (
	"math"
	"slices"
	"strconv"

	"windlass/api"
)

// WrongGraphs are graphs that layer 7 rejects, read free.
type WrongGraphs struct {
	Name   string
	Graphs api.Graphs
}

// graphFault is a change by which a graph like that of three is not valid.
type graphFault struct {
	name   string
	change func(f *api.Graph)
}

// threeGraphs that are valid, and the same.
func threeGraphs() api.Graphs {
	g, _ := Graphs("out 7; ret - | out 7; ret - | out 7; ret -")
	return g
}

// AllWrongGraphs are programs with each fault in each of their graphs, and those
// that have not the graphs that a program has to have.
func AllWrongGraphs() []WrongGraphs {
	list := []WrongGraphs{
		{"no graphs", api.Graphs{}},
		{"a list of no graphs", api.Graphs{Funcs: []api.Graph{}}},
		{"an empty graph", api.Graphs{Funcs: make([]api.Graph, 1)}},
		{"17 graphs", api.Graphs{Funcs: slices.Repeat(threeGraphs().Funcs[:1], 17)}},
	}
	for _, x := range slices.Concat(headFaults(), nodeFaults()) {
		for i, where := range []string{"first", "second", "third"} {
			g := threeGraphs()
			x.change(&g.Funcs[i])
			list = append(list, WrongGraphs{x.name + " in the " + where + " graph", g})
		}
	}
	for _, text := range wrongTexts() {
		g, _ := Graphs(text)
		list = append(list, WrongGraphs{text, g})
	}
	return list
}

func wrongTexts() []string {
	return []string{
		// The first graph has a parameter, or a result.
		"graph params=0; ret - | ret -", "graph result; ret 0 | ret -",
		// At fault is a node that is not reachable.
		"ret -; out 24; ret -", "ret -; out -; ret -", "ret -; call 1 -; ret -", "graph ptrs=3; ret -; out 3; ret -",
		// It is valid, read bound.
		"graph ptrs=3; move 0 3; out 0; ret -",
	}
}

func headFaults() []graphFault {
	return []graphFault{
		{"no nodes", func(f *api.Graph) { f.Nodes = nil }},
		{"4097 nodes", func(f *api.Graph) { f.Nodes = slices.Repeat([]api.Node{{Op: api.NNop}}, 4097) }},
		{"1025 places", func(f *api.Graph) { f.Kinds = make([]api.Kind, 1025) }},
		{"a kind 2", func(f *api.Graph) { f.Kinds[23] = 2 }},
		{"65 cells", func(f *api.Graph) { f.Cells = 65 }},
		{"-1 cells", func(f *api.Graph) { f.Cells = -1 }},
		{"an Entry of -1", func(f *api.Graph) { f.Entry = -1 }},
		{"an Entry that does not exist", func(f *api.Graph) { f.Entry = 2 }},
		{"a Keep that does not exist", func(f *api.Graph) { f.Keep = 4 }},
		{"five parameters", func(f *api.Graph) { f.Params, f.Init = []int{0, 1, 2, 3, 4}, []int{-1, -1, -1, -1, -1} }},
		{"an Init of no parameter", func(f *api.Graph) { f.Init = append(f.Init, -1) }},
	}
}

func nodeFaults() []graphFault {
	return []graphFault{
		{"an operation 0", func(f *api.Graph) { f.Nodes[0].Op = 0 }},
		{"an operation 19", func(f *api.Graph) { f.Nodes[0].Op = 19 }},
		{"a Next of -1", func(f *api.Graph) { f.Nodes[0].Next = -1 }},
		{"a Next that does not exist", func(f *api.Graph) { f.Nodes[0].Next = 2 }},
		{"a place -1", func(f *api.Graph) { f.Nodes[0].A = -1 }},
		{"a place that does not exist", func(f *api.Graph) { f.Nodes[0].A = 24 }},
		{"a place of another kind", func(f *api.Graph) { f.Kinds[7] = api.Ptr }},
	}
}

// Ask is a call that is for one graph of a program that is to be valid, read
// free, and its error: ErrNode if the program is not valid, ErrArg if there is no
// such graph.
type Ask struct {
	Name   string
	Graphs api.Graphs
	Graph  int
	Want   api.Errno
}

// Asks with each error, and with none.
func Asks() []Ask {
	var list []Ask
	for _, x := range AllWrongGraphs() {
		for _, f := range []int{math.MinInt, -1, 0, 1, 2, 3, 16, math.MaxInt} {
			list = append(list, Ask{x.Name, x.Graphs, f, api.ErrNode})
		}
	}
	for n := 1; n <= 16; n++ {
		g := api.Graphs{Funcs: slices.Repeat(threeGraphs().Funcs[:1], n)}
		for _, f := range []int{math.MinInt, -1 << 32, -n, -2, -1, 0, n - 1, n, n + 1, 15, 16, 17, 1 << 32, math.MaxInt} {
			x := Ask{strconv.Itoa(n) + " graphs", g, f, api.ErrArg}
			if f >= 0 && f < n {
				x.Want = api.OK
			}
			list = append(list, x)
		}
	}
	return list
}

package ir

import (
	"slices"

	"windlass/api"
)

// none is in a field that names no cell or no place.
const none = -1

// Check a program of graphs. ErrNode.
func Check(g api.Graphs, bound bool) api.Errno {
	if !isValid(g.Funcs, bound) {
		return api.ErrNode
	}
	return api.OK
}

func isValid(funcs []api.Graph, bound bool) bool {
	if len(funcs) < 1 || len(funcs) > api.MaxFuncs {
		return false
	}
	if len(funcs[0].Params) > 0 || funcs[0].Result {
		return false
	}
	// A node looks at the head of the graph that it calls.
	for _, f := range funcs {
		if !headHolds(f, bound) {
			return false
		}
	}
	for _, f := range funcs {
		c := checker{funcs: funcs, f: f, bound: bound}
		if slices.ContainsFunc(f.Nodes, c.breaks) {
			return false
		}
	}
	return true
}

// headHolds reports whether all of a graph but its nodes is as it has to be.
func headHolds(f api.Graph, bound bool) bool {
	return kindsHold(f.Kinds, bound) &&
		f.Cells >= 0 && f.Cells <= api.MaxCells &&
		paramsHold(f, bound) && initHolds(f, bound) &&
		(f.Keep == none || isOne(f.Keep, f.Cells)) &&
		len(f.Nodes) <= api.MaxNodes && isOne(f.Entry, len(f.Nodes))
}

// isOne reports whether i is the number of one of n things.
func isOne(i, n int) bool { return i >= 0 && i < n }

func kindsHold(kinds []api.Kind, bound bool) bool {
	if len(kinds) > api.MaxPlaces || bound && len(kinds) < api.Registers {
		return false
	}
	return !slices.ContainsFunc(kinds, func(k api.Kind) bool { return k != api.Num && k != api.Ptr })
}

func paramsHold(f api.Graph, bound bool) bool {
	if len(f.Params) > api.MaxParams {
		return false
	}
	if bound {
		return areInOrder(f.Params)
	}
	for i, p := range f.Params {
		if !isOne(p, len(f.Kinds)) || slices.Contains(f.Params[:i], p) {
			return false
		}
	}
	return true
}

// areInOrder reports whether the places are 0, 1, ..
func areInOrder(places []int) bool {
	for i, p := range places {
		if p != i {
			return false
		}
	}
	return true
}

// initHolds takes for granted that the parameters are places that exist.
func initHolds(f api.Graph, bound bool) bool {
	if len(f.Init) != len(f.Params) {
		return false
	}
	for i, cell := range f.Init {
		if cell == none {
			continue
		}
		if !isOne(cell, f.Cells) || !bound && f.Kinds[f.Params[i]] != api.Num {
			return false
		}
	}
	return true
}

// checker looks at the nodes of a graph f among funcs, whose heads hold.
type checker struct {
	funcs []api.Graph
	f     api.Graph
	bound bool
}

// breaks a node the rules?
func (c checker) breaks(n api.Node) bool {
	noNode := func(next int) bool { return !isOne(next, len(c.f.Nodes)) }
	return !c.usesWell(n) || slices.ContainsFunc(Next(n), noNode)
}

// usesWell reports whether all that a node uses, but the nodes that it continues
// with, exists and is of the right kind.
func (c checker) usesWell(n api.Node) bool {
	switch n.Op {
	case api.NConst, api.NIn:
		return c.are(api.Num, n.D)
	case api.NMove:
		return c.exist(n.A) && c.are(c.f.Kinds[n.A], n.D)
	case api.NBin:
		return n.By >= api.Add && n.By <= api.Below && c.are(api.Num, n.D, n.A, n.B)
	case api.NCellGet:
		return c.hasCell(n) && c.are(api.Num, n.D)
	case api.NCellSet:
		return c.hasCell(n) && c.are(api.Num, n.A)
	case api.NAddr:
		return c.hasCell(n) && c.are(api.Ptr, n.D)
	case api.NLoad:
		return c.are(api.Num, n.D) && c.are(api.Ptr, n.A)
	case api.NStore:
		return c.are(api.Ptr, n.A) && c.are(api.Num, n.B)
	case api.NBranch, api.NPanic, api.NExit, api.NOut:
		return c.are(api.Num, n.A)
	case api.NNop:
		return true
	case api.NCall:
		return c.handsWell(n) && c.getsWell(n)
	case api.NRet:
		return c.returnsWell(n)
	case api.NDefer:
		return c.handsWell(n)
	case api.NRecover:
		return n.D != n.E && c.are(api.Num, n.D, n.E)
	}
	return false
}

func (c checker) exist(places ...int) bool {
	noPlace := func(p int) bool { return !isOne(p, len(c.f.Kinds)) }
	return !slices.ContainsFunc(places, noPlace)
}

// are the places there, and of that kind? Read bound a place may be of any kind.
func (c checker) are(k api.Kind, places ...int) bool {
	other := func(p int) bool { return c.f.Kinds[p] != k }
	return c.exist(places...) && (c.bound || !slices.ContainsFunc(places, other))
}

func (c checker) hasCell(n api.Node) bool { return isOne(n.Cell, c.f.Cells) }

// handsWell reports whether there is a function F that can be called with Args.
func (c checker) handsWell(n api.Node) bool {
	if !isOne(n.F, len(c.funcs)) {
		return false
	}
	called := c.funcs[n.F]
	if len(n.Args) != len(called.Params) {
		return false
	}
	if c.bound {
		return areInOrder(n.Args)
	}
	for i, p := range n.Args {
		if !c.are(called.Kinds[called.Params[i]], p) {
			return false
		}
	}
	return true
}

// getsWell reports whether a call's number, if there is one, has a place.
func (c checker) getsWell(n api.Node) bool {
	if n.D == none {
		return true
	}
	return c.funcs[n.F].Result && c.are(api.Num, n.D) && (!c.bound || n.D == 0)
}

func (c checker) returnsWell(n api.Node) bool {
	if !c.f.Result {
		return n.A == none
	}
	return c.are(api.Num, n.A)
}

package samples

import (
	"windlass/api"
)

// Great is the greatest program that there may be: of all that is bounded it has
// as much as it may. Each function calls the one behind it, with sixteen words
// on its operand stack.
func Great() api.Program {
	var p api.Program
	for i := range api.MaxFuncs {
		p.Funcs = append(p.Funcs, great(i))
	}
	return p
}

// last is the local that each great function counts in, and keeps.
const last = api.MaxLocals - 1

func great(i int) api.Func {
	f := api.Func{Keep: last}
	for l := range api.MaxLocals {
		f.Locals = append(f.Locals, api.Kind(l%2))
	}
	f.Locals[last] = api.Num
	if i > 0 {
		f.Params = api.MaxParams
		f.Result = true
	}
	m := &Maker{}
	for range 6 {
		m.emit(api.Addr, 14)
		m.emit(api.Get, 2)
	}
	m.constant(uint64(i))
	m.emit(api.Addr, 0)
	m.emit(api.Get, 0)
	m.emit(api.Addr, 2)
	m.greatCall(i)
	m.emit(api.Out, 0)
	for range 6 {
		m.emit(api.Store, 0)
	}
	m.count(f.Result)
	f.Code = m.code
	return f
}

// greatCall takes a number, a pointer, a number and a pointer, and leaves a
// number.
func (m *Maker) greatCall(i int) {
	if i < api.MaxFuncs-1 {
		m.emit(api.Call, i+1)
		return
	}
	for range 3 {
		m.emit(api.Drop, 0)
	}
}

// count in the last local until the function has as many instructions as it may.
func (m *Maker) count(result bool) {
	for len(m.code) < api.MaxCode-8 {
		m.emit(api.Get, last)
		m.constant(1)
		m.emit(api.Add, 0)
		m.emit(api.Set, last)
	}
	for len(m.code) < api.MaxCode-2 {
		m.emit(api.Jump, len(m.code)+1)
	}
	if !result {
		m.emit(api.Jump, len(m.code)+1)
	} else {
		m.emit(api.Get, last)
	}
	m.emit(api.Ret, 0)
}

// GreatGraphs are as many graphs as there may be, each with as many nodes and
// places as it may have. Those of the last one are made by number; all others do
// nothing.
func GreatGraphs(node func(i int) api.Node) api.Graphs {
	g := api.Graphs{Funcs: make([]api.Graph, api.MaxFuncs)}
	for i := range g.Funcs {
		g.Funcs[i] = api.Graph{Kinds: make([]api.Kind, api.MaxPlaces), Keep: -1, Nodes: make([]api.Node, api.MaxNodes)}
		for k := range g.Funcs[i].Nodes {
			g.Funcs[i].Nodes[k] = api.Node{Op: api.NNop, Next: k}
		}
	}
	for k := range api.MaxNodes {
		g.Funcs[api.MaxFuncs-1].Nodes[k] = node(k)
	}
	return g
}

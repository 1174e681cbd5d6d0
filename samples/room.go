package samples

import (
	"slices"

	"windlass/api"
	"windlass/ir"
)

// Room is a list with room behind it, in which there are marks.
func Room[T any](list []T, mark T) []T {
	out := append(slices.Clone(list), mark, mark)
	return out[:len(list)]
}

// Roomy is a program that has room and marks behind all its lists.
func Roomy(p api.Program) api.Program {
	p.Funcs = Room(p.Funcs, api.Func{Params: 77})
	for i := range p.Funcs {
		f := &p.Funcs[i]
		f.Locals = Room(f.Locals, 77)
		f.Code = Room(f.Code, api.Instr{Op: 77, Arg: 77, Imm: 77})
	}
	return p
}

// Wholly is a copy of a program with what lies behind its lists.
func Wholly(p api.Program) api.Program {
	p.Funcs = slices.Clone(whole(p.Funcs))
	for i := range p.Funcs {
		f := &p.Funcs[i]
		f.Locals = slices.Clone(whole(f.Locals))
		f.Code = slices.Clone(whole(f.Code))
	}
	return p
}

// RoomyGraphs are graphs that have room and marks behind all their lists.
func RoomyGraphs(g api.Graphs) api.Graphs {
	g = ir.Copy(g)
	g.Funcs = Room(g.Funcs, api.Graph{Keep: 77})
	for i := range g.Funcs {
		f := &g.Funcs[i]
		f.Params, f.Init = Room(f.Params, 77), Room(f.Init, 77)
		f.Kinds = Room(f.Kinds, 77)
		f.Nodes = Room(f.Nodes, api.Node{Op: 77})
		for k := range f.Nodes {
			f.Nodes[k].Args = Room(f.Nodes[k].Args, 77)
		}
	}
	return g
}

// WhollyGraphs are a copy of graphs with what lies behind their lists.
func WhollyGraphs(g api.Graphs) api.Graphs {
	g.Funcs = slices.Clone(whole(g.Funcs))
	for i := range g.Funcs {
		f := &g.Funcs[i]
		f.Params, f.Init, f.Kinds = whole(f.Params), whole(f.Init), whole(f.Kinds)
		f.Nodes = slices.Clone(whole(f.Nodes))
		for k := range f.Nodes {
			f.Nodes[k].Args = whole(f.Nodes[k].Args)
		}
	}
	return ir.Copy(g)
}

func whole[T any](list []T) []T { return list[:cap(list)] }

package samples

import (
	"slices"

	"windlass/api"
)

// Room is a list with room behind it, in which there are marks.
func Room[T any](list []T, mark T) []T {
	out := append(slices.Clone(list), mark, mark)
	return out[:len(list)]
}

// Roomy is a program that has room and marks behind all its lists.
func Roomy(p api.Program) api.Program {
	p.Funcs = Room(p.Funcs, api.Func{Params: 77})
	for i := range p.Funcs {
		f := &p.Funcs[i]
		f.Locals = Room(f.Locals, 77)
		f.Code = Room(f.Code, api.Instr{Op: 77, Arg: 77, Imm: 77})
	}
	return p
}

// Wholly is a copy of a program with what lies behind its lists.
func Wholly(p api.Program) api.Program {
	p.Funcs = slices.Clone(p.Funcs[:cap(p.Funcs)])
	for i := range p.Funcs {
		f := &p.Funcs[i]
		f.Locals = slices.Clone(f.Locals[:cap(f.Locals)])
		f.Code = slices.Clone(f.Code[:cap(f.Code)])
	}
	return p
}

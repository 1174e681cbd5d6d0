package samples

import (
	"slices"

	"windlass/api"
)

// Wrong is a program that layer 5 rejects, and the error.
type Wrong struct {
	Name    string
	Program api.Program
	Want    api.Errno
}

// AllWrong are programs of all three errors.
func AllWrong() []Wrong {
	return slices.Concat(Unsayable(), TooBig(), Unkind())
}

// altered is a wrong program of one function that is fine but for what f does.
func altered(name string, want api.Errno, f func(*api.Func)) Wrong {
	g := fine()
	f(&g)
	return Wrong{name, api.Program{Funcs: []api.Func{g}}, want}
}

func fine() api.Func {
	return api.Func{Locals: []api.Kind{api.Num, api.Ptr}, Keep: -1, Code: []api.Instr{{Op: api.In}, {Op: api.Out}, {Op: api.Ret}}}
}

// Unsayable are programs that no bytes are for.
func Unsayable() []Wrong {
	list := []Wrong{
		{"no function", api.Program{}, api.ErrForm},
		{"256 functions", api.Program{Funcs: make([]api.Func, 256)}, api.ErrForm},
		{"256 functions that are fine", api.Program{Funcs: slices.Repeat([]api.Func{fine()}, 256)}, api.ErrForm},
	}
	form := func(name string, f func(*api.Func)) {
		list = append(list, altered(name, api.ErrForm, f))
	}
	form("-1 parameters", func(g *api.Func) { g.Params = -1 })
	form("more parameters than locals", func(g *api.Func) { g.Params = 3 })
	form("256 locals", func(g *api.Func) { g.Locals = make([]api.Kind, 256) })
	form("a kind 2", func(g *api.Func) { g.Locals[1] = 2 })
	form("a Keep of -2", func(g *api.Func) { g.Keep = -2 })
	form("a Keep of 255", func(g *api.Func) { g.Keep = 255 })
	form("65536 instructions", func(g *api.Func) { g.Code = make([]api.Instr, 65536) })
	form("an operation 0", func(g *api.Func) { g.Code[0].Op = 0 })
	form("an operation 33", func(g *api.Func) { g.Code[0].Op = 33 })
	form("an operation 33 that is not reachable", func(g *api.Func) { g.Code = append(g.Code, api.Instr{Op: 33}) })
	form("an Arg", func(g *api.Func) { g.Code[0].Arg = 1 })
	form("an Imm", func(g *api.Func) { g.Code[0].Imm = 1 })
	form("an Arg of -1", func(g *api.Func) { g.Code[2] = api.Instr{Op: api.Call, Arg: -1} })
	form("an Arg of 256", func(g *api.Func) { g.Code[2] = api.Instr{Op: api.Call, Arg: 256} })
	form("a target of 65536", func(g *api.Func) { g.Code[2] = api.Instr{Op: api.Jump, Arg: 65536} })
	form("form ahead of a bound", func(g *api.Func) { g.Code = make([]api.Instr, 257) })
	form("form ahead of the kind", func(g *api.Func) { g.Code = []api.Instr{{Op: api.Out}, {Op: 77}} })
	return list
}

// TooBig are programs beyond a bound.
func TooBig() []Wrong {
	list := []Wrong{{"17 functions", api.Program{Funcs: slices.Repeat([]api.Func{fine()}, 17)}, api.ErrBig}}
	big := func(name string, f func(*api.Func)) {
		list = append(list, altered(name, api.ErrBig, f))
	}
	big("17 locals", func(g *api.Func) { g.Locals = make([]api.Kind, 17) })
	big("5 parameters", func(g *api.Func) { g.Params, g.Locals = 5, make([]api.Kind, 5) })
	big("257 instructions", func(g *api.Func) { g.Code = slices.Repeat([]api.Instr{{Op: api.Ret}}, 257) })
	big("a bound ahead of the kind", func(g *api.Func) { g.Code = slices.Repeat([]api.Instr{{Op: api.Out}}, 257) })
	big("17 words on the stack", func(g *api.Func) {
		g.Code = append(slices.Repeat([]api.Instr{{Op: api.In}}, 17), slices.Repeat([]api.Instr{{Op: api.Drop}}, 17)...)
		g.Code = append(g.Code, api.Instr{Op: api.Ret})
	})
	big("17 words that recover leaves", func(g *api.Func) {
		g.Code = append(slices.Repeat([]api.Instr{{Op: api.In}}, 15), api.Instr{Op: api.Recover}, api.Instr{Op: api.Panic})
	})
	return list
}

// Unkind are programs that break a rule of kinds.
func Unkind() []Wrong {
	var list []Wrong
	for _, s := range slices.Concat(unkindReferences(), unkindStacks()) {
		p, _ := Program(s)
		list = append(list, Wrong{s, p, api.ErrKind})
	}
	return list
}

// unkindReferences break the rules that ask nothing of a stack.
func unkindReferences() []string {
	return []string{
		"func 1 n 0 -; ret",
		"func 0 - 1 -; const 1; ret",
		"func 0 - 0 -",
		Heading + "ret; func 0 - 0 -",
		"func 0 n 0 -; get 1; out; ret",
		"func 0 n 0 -; const 1; set 1; ret",
		"func 0 n 0 -; addr 1; drop; ret",
		"func 0 n 0 -; ret; get 1",
		Heading + "call 1; ret",
		Heading + "defer 1; ret",
		Heading + "ret; defer 1",
		Heading + "jump 1",
		Heading + "const 0; zero 9; ret",
		Heading + "ret; jump 2",
		"func 0 p 0 -; addr 0; drop; ret",
		"func 0 p 0 0; ret",
		"func 0 n 0 1; ret",
		Heading + "ret; func 0 - 1 -; defer 0; const 1; ret",
	}
}

// unkindStacks have a stack that is not what it has to be, or no successor.
func unkindStacks() []string {
	return []string{
		Heading + "out; ret",
		Heading + "const 1; add; out; ret",
		Heading + "drop; ret",
		Heading + "dup; ret",
		Heading + "panic",
		Heading + "exit",
		Heading + "zero 0; ret",
		"func 0 n 0 -; set 0; ret",
		"func 0 p 0 -; get 0; out; ret",
		"func 0 p 0 -; const 0; set 0; ret",
		"func 0 n 0 -; addr 0; set 0; ret",
		Heading + "const 0; load; drop; ret",
		"func 0 n 0 -; addr 0; addr 0; store; ret",
		"func 0 n 0 -; const 1; const 1; store; ret",
		"func 0 n 0 -; addr 0; const 1; add; out; ret",
		Heading + "const 1; ret",
		Heading + "call 1; ret; func 1 n 0 -; ret",
		Heading + "const 1; call 1; ret; func 1 p 0 -; ret",
		"func 0 n 0 -; addr 0; const 1; call 1; ret; func 2 np 0 -; ret",
		Heading + "defer 1; ret; func 1 n 0 -; ret",
		Heading + "call 1; out; ret; func 0 - 0 -; ret",
		Heading + "call 1; ret; func 0 - 1 -; const 1; ret",
		Heading + "call 1; out; ret; func 0 - 1 -; ret",
		Heading + "const 1; const 1; zero 0; ret",
		Heading + "a: const 1; zero b; const 2; b: ret",
		Heading + "const 1",
		Heading + "const 0; zero 0",
		Heading + "call 0",
		"func 0 npn 0 -; a: get 1; const 1; store; const 1; jump a; ret",
	}
}

package samples

import (
	"iter"

	"windlass/api"
)

// Act is what a function does, one of a list of things.
type Act struct {
	Op       api.Op
	Function int // that is called or deferred
}

// acts that are tried: what is given, and calling and deferring some functions.
func acts(from, to int, both ...api.Op) []Act {
	var list []Act
	for _, op := range both {
		list = append(list, Act{Op: op})
	}
	for f := from; f <= to; f++ {
		list = append(list, Act{api.Call, f}, Act{api.Defer, f})
	}
	return list
}

// bodies are all lists of up to n acts; a panic is the last.
func bodies(list []Act, n int) [][]Act {
	out := [][]Act{nil}
	if n == 0 {
		return out
	}
	for _, a := range list {
		if a.Op == api.Panic {
			out = append(out, []Act{a})
			continue
		}
		for _, rest := range bodies(list, n-1) {
			out = append(out, append([]Act{a}, rest...))
		}
	}
	return out
}

// function of acts: what it panics with tells which function it is, and what
// recover leaves is told.
func function(n int, list []Act) api.Func {
	f := api.Func{Keep: -1}
	for k, a := range list {
		switch a.Op {
		case api.Recover:
			f.Code = append(f.Code, api.Instr{Op: api.Recover}, api.Instr{Op: api.Out}, api.Instr{Op: api.Out})
		case api.Panic:
			f.Code = append(f.Code, api.Instr{Op: api.Const, Imm: uint64(10*n + k)}, api.Instr{Op: api.Panic})
		default:
			f.Code = append(f.Code, api.Instr{Op: a.Op, Arg: a.Function})
		}
	}
	f.Code = append(f.Code, api.Instr{Op: api.Ret})
	return f
}

// ShortLists are, for each of four functions, all lists of up to two acts that make
// frames, end them, or ask about a panic, but for those by which functions come
// around to themselves.
func ShortLists() [4][][]Act {
	return [4][][]Act{
		bodies(acts(1, 2, api.Panic), 2),
		bodies(acts(2, 3, api.Recover, api.Panic), 2),
		bodies(acts(3, 3, api.Recover, api.Panic), 2),
		bodies(acts(1, 0, api.Recover, api.Panic), 2),
	}
}

// Short are the programs of four functions of such lists.
func Short() iter.Seq[api.Program] {
	var funcs [4][]api.Func
	for n, lists := range ShortLists() {
		for _, l := range lists {
			funcs[n] = append(funcs[n], function(n, l))
		}
	}
	return func(yield func(api.Program) bool) {
		for _, a := range funcs[0] {
			for _, b := range funcs[1] {
				for _, c := range funcs[2] {
					for _, d := range funcs[3] {
						if !yield(api.Program{Funcs: []api.Func{a, b, c, d}}) {
							return
						}
					}
				}
			}
		}
	}
}

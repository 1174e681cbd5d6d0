package build

import (
	"windlass/api"
)

// node that an instruction becomes.
func (b *builder) node(i int) api.Node {
	c := b.f.Code[i]
	n := b.effect(c, b.stacks[i])
	switch c.Op {
	case api.Ret, api.Panic, api.Exit:
	case api.Jump:
		n.Next = b.nodes[c.Arg]
	case api.Zero:
		n.Next, n.Else = b.nodes[i+1], b.nodes[c.Arg]
	default:
		n.Next = b.nodes[i+1]
	}
	return n
}

// effect is the node of an instruction without what it continues with.
func (b *builder) effect(c api.Instr, stack []api.Kind) api.Node {
	taken := b.top(stack, b.takes(c))
	below := len(stack) - len(taken)
	left := b.word(below, api.Num) // the place of the number that it leaves, if it leaves one
	switch c.Op {
	case api.Const:
		return api.Node{Op: api.NConst, D: left, Imm: c.Imm}
	case api.Get:
		return b.get(c.Arg, b.word(below, b.f.Locals[c.Arg]))
	case api.Set:
		return b.set(c.Arg, taken[0])
	case api.Addr:
		return api.Node{Op: api.NAddr, D: b.word(below, api.Ptr), Cell: b.cells[c.Arg]}
	case api.Load:
		return api.Node{Op: api.NLoad, D: left, A: taken[0]}
	case api.Store:
		return api.Node{Op: api.NStore, A: taken[0], B: taken[1]}
	case api.Jump, api.Drop:
		return api.Node{Op: api.NNop}
	case api.Zero:
		return api.Node{Op: api.NBranch, A: taken[0]}
	case api.Call:
		return b.call(c.Arg, taken, left)
	case api.Ret:
		return b.ret(taken)
	case api.Defer:
		return api.Node{Op: api.NDefer, F: c.Arg, Args: taken}
	case api.Panic:
		return api.Node{Op: api.NPanic, A: taken[0]}
	case api.Recover:
		return api.Node{Op: api.NRecover, D: left, E: b.word(below+1, api.Num)}
	case api.In:
		return api.Node{Op: api.NIn, D: left}
	case api.Out:
		return api.Node{Op: api.NOut, A: taken[0]}
	case api.Exit:
		return api.Node{Op: api.NExit, A: taken[0]}
	case api.Dup:
		return api.Node{Op: api.NMove, D: b.word(below+1, stack[below]), A: taken[0]}
	}
	return api.Node{Op: api.NBin, By: c.Op, D: left, A: taken[0], B: taken[1]}
}

// takes is how many words an instruction takes from the operand stack.
func (b *builder) takes(c api.Instr) int {
	switch c.Op {
	case api.Const, api.Get, api.Addr, api.Jump, api.Recover, api.In:
		return 0
	case api.Set, api.Load, api.Zero, api.Panic, api.Out, api.Exit, api.Drop, api.Dup:
		return 1
	case api.Call, api.Defer:
		return b.funcs[c.Arg].Params
	case api.Ret:
		if b.f.Result {
			return 1
		}
		return 0
	}
	return 2
}

func (b *builder) get(local, to int) api.Node {
	if cell := b.cells[local]; cell != none {
		return api.Node{Op: api.NCellGet, D: to, Cell: cell}
	}
	return api.Node{Op: api.NMove, D: to, A: local}
}

func (b *builder) set(local, from int) api.Node {
	if cell := b.cells[local]; cell != none {
		return api.Node{Op: api.NCellSet, Cell: cell, A: from}
	}
	return api.Node{Op: api.NMove, D: local, A: from}
}

func (b *builder) call(function int, args []int, left int) api.Node {
	n := api.Node{Op: api.NCall, F: function, Args: args, D: none}
	if b.funcs[function].Result {
		n.D = left
	}
	return n
}

func (b *builder) ret(taken []int) api.Node {
	n := api.Node{Op: api.NRet, A: none}
	if len(taken) > 0 {
		n.A = taken[0]
	}
	return n
}

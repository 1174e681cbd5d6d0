package samples

import (
	"strconv"
	"strings"

	"windlass/api"
)

// Probe is a node of one operation, as Graphs takes it, and what it does to the
// six places of the graph that Text has it in.
type Probe struct {
	Node          string
	Reads, Writes []int
	Ends          bool // nothing comes after it
}

// probes are nodes of each operation, the places that they read, and those that
// they write. Places 4 and 5 are pointers; function 1 has four parameters,
// function 2 none, function 3 one and a result, function 4 none and a result.
const probes = `
const 0 7 | | 0
const 3 1 | | 3
move 0 1 | 1 | 0
move 1 0 | 0 | 1
move 2 2 | 2 | 2
move 4 5 | 5 | 4
move 5 5 | 5 | 5
add 0 1 2 | 1 2 | 0
below 3 2 1 | 1 2 | 3
div 1 1 2 | 1 2 | 1
rem 2 1 2 | 1 2 | 2
mul 0 3 3 | 3 | 0
shl 3 3 3 | 3 | 3
get 0 2 | | 0
get 2 0 | | 2
set 2 0 | 0 |
set 0 2 | 2 |
addr 4 1 | | 4
addr 5 3 | | 5
load 0 4 | 4 | 0
load 3 5 | 5 | 3
store 4 0 | 0 4 |
store 5 3 | 3 5 |
branch 0 behind | 0 |
branch 3 behind | 3 |
nop | |
jump behind | |
call 1 - 0 1 4 5 | 0 1 4 5 |
call 1 - 3 2 5 4 | 2 3 4 5 |
call 1 - 1 1 4 4 | 1 4 |
call 2 - | |
call 3 - 2 | 2 |
call 3 0 2 | 2 | 0
call 3 2 2 | 2 | 2
call 4 3 | | 3
call 4 0 | | 0
call 4 - | |
defer 1 3 2 5 4 | 2 3 4 5 |
defer 1 0 0 5 5 | 0 5 |
defer 2 | |
defer 3 1 | 1 |
defer 4 | |
recover 0 1 | | 0 1
recover 3 0 | | 0 3
in 0 | | 0
in 3 | | 3
out 0 | 0 |
out 3 | 3 |
panic 0 | 0 | ends
panic 3 | 3 | ends
exit 0 | 0 | ends
exit 2 | 2 | ends
ret - | | ends
`

// Probes of all operations.
func Probes() []Probe {
	var list []Probe
	for line := range strings.SplitSeq(strings.TrimSpace(probes), "\n") {
		node, fields, _ := strings.Cut(line, "|")
		reads, writes, _ := strings.Cut(fields, "|")
		x := Probe{Node: strings.TrimSpace(node), Reads: places(reads)}
		if x.Ends = strings.TrimSpace(writes) == "ends"; !x.Ends {
			x.Writes = places(writes)
		}
		list = append(list, x)
	}
	return list
}

func places(s string) []int {
	var list []int
	for _, word := range strings.Fields(s) {
		p, _ := strconv.Atoi(word)
		list = append(list, p)
	}
	return list
}

// Text of a program in which a probe's node is the first one, and nodes that read
// nothing, or every place, and write none, are behind it: of places 4 and 0, 5
// and 1, 2, and 3, in this order.
func (x Probe) Text(all bool) string {
	text := "graph places=6 ptrs=4,5; " + x.Node + "; behind: "
	if all {
		text += "store 4 0; store 5 1; out 2; out 3; "
	}
	return text + "ret - | graph params=0,1,2,3 ptrs=2,3; ret - | ret - | graph params=0 result; ret 0 | graph result; ret 0"
}

// FillUnused fields of a node with a number: those that its operation does not
// use. F, Cell, By and Imm stay.
func FillUnused(n *api.Node, v int) {
	for _, field := range unused(n) {
		*field = v
	}
	if n.Op != api.NCall && n.Op != api.NDefer {
		n.Args = []int{v, 0, 1, 2, 3, 4, 5}
	}
}

func unused(n *api.Node) []*int {
	d, e, a, b, next, elsewhere := &n.D, &n.E, &n.A, &n.B, &n.Next, &n.Else
	switch n.Op {
	case api.NConst, api.NCellGet, api.NAddr, api.NCall, api.NIn:
		return []*int{e, a, b, elsewhere}
	case api.NMove, api.NLoad:
		return []*int{e, b, elsewhere}
	case api.NBin:
		return []*int{e, elsewhere}
	case api.NCellSet, api.NOut:
		return []*int{d, e, b, elsewhere}
	case api.NStore:
		return []*int{d, e, elsewhere}
	case api.NBranch:
		return []*int{d, e, b}
	case api.NNop, api.NDefer:
		return []*int{d, e, a, b, elsewhere}
	case api.NRecover:
		return []*int{a, b, elsewhere}
	}
	return []*int{d, e, b, next, elsewhere} // NPanic, NExit, NRet
}

// Used is a node that has nothing in the fields that its operation does not use.
func Used(n api.Node) api.Node {
	m := api.Node{Op: n.Op, Next: n.Next}
	switch n.Op {
	case api.NConst:
		m.D, m.Imm = n.D, n.Imm
	case api.NMove, api.NLoad:
		m.D, m.A = n.D, n.A
	case api.NBin:
		m.By, m.D, m.A, m.B = n.By, n.D, n.A, n.B
	case api.NCellGet, api.NAddr:
		m.D, m.Cell = n.D, n.Cell
	case api.NCellSet:
		m.Cell, m.A = n.Cell, n.A
	case api.NStore:
		m.A, m.B = n.A, n.B
	case api.NBranch:
		m.A, m.Else = n.A, n.Else
	case api.NCall:
		m.F, m.Args, m.D = n.F, n.Args, n.D
	case api.NDefer:
		m.F, m.Args = n.F, n.Args
	case api.NRet, api.NPanic, api.NExit:
		m.A, m.Next = n.A, 0
	case api.NOut:
		m.A = n.A
	case api.NRecover:
		m.D, m.E = n.D, n.E
	case api.NIn:
		m.D = n.D
	}
	return m
}

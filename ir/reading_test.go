package ir_test

import (
	"strings"
	"sync"

	"windlass/api"
)

// The second reading goes by the chapter's words: it has a table of what each
// operation uses, and tells the first fault that it finds in words.

// chapter is the table: a place is told by its field and the kind that the node
// asks of it (n a number, p a pointer, = the kind of the other one).
const chapter = `
NConst Dn
NMove D= A=
NBin By Dn An Bn
NCellGet Dn Cell
NCellSet Cell An
NAddr Dp Cell
NLoad Dn Ap
NStore Ap Bn
NBranch An Else
NNop
NCall F Args Result
NRet Ends
NDefer F Args
NPanic An
NRecover Dn En Different
NIn Dn
NOut An
NExit An
`

// rowsOf the chapter's table, by operation.
var rowsOf = sync.OnceValue(func() map[api.NodeOp][]string {
	rows := map[api.NodeOp][]string{}
	for line := range strings.SplitSeq(strings.TrimSpace(chapter), "\n") {
		words := strings.Fields(line)
		for op, name := range ops() {
			if name == words[0] {
				rows[op] = words
			}
		}
	}
	return rows
})

type reader struct {
	g     api.Graphs
	f     api.Graph
	bound bool
	fault string
}

func (r *reader) ask(holds bool, fault string) {
	if !holds && r.fault == "" {
		r.fault = fault
	}
}

// faultOf a program; none if it is valid.
func faultOf(g api.Graphs, bound bool) string {
	r := &reader{g: g, bound: bound}
	r.heads()
	for _, f := range g.Funcs {
		r.f = f
		for _, n := range f.Nodes {
			if r.fault == "" {
				r.node(n)
			}
		}
	}
	return r.fault
}

// heads are all of the graphs but their nodes.
func (r *reader) heads() {
	r.ask(len(r.g.Funcs) != 0, "no graphs")
	r.ask(len(r.g.Funcs) <= 16, "too many graphs")
	for i, f := range r.g.Funcs {
		if r.fault == "" {
			r.f = f
			r.ask(i > 0 || len(f.Params) == 0, "main has parameters")
			r.ask(i > 0 || !f.Result, "main has a result")
			r.head()
		}
	}
}

func (r *reader) head() {
	f := r.f
	r.ask(len(f.Kinds) <= 1024, "too many kinds")
	r.ask(!r.bound || 16 <= len(f.Kinds), "too few kinds")
	r.ask(len(f.Params) <= 4, "too many parameters")
	r.ask(len(f.Init) == len(f.Params), "another number of Init")
	r.ask(0 <= f.Cells && f.Cells <= 64, "cells")
	r.ask(f.Keep == -1 || r.cell(f.Keep), "Keep")
	r.ask(1 <= len(f.Nodes) && len(f.Nodes) <= 4096, "nodes")
	r.ask(f.Entry >= 0 && f.Entry < len(f.Nodes), "Entry")
	if r.fault != "" {
		return
	}
	for _, k := range f.Kinds {
		r.ask(k == 0 || k == 1, "a kind")
	}
	for i, p := range f.Params {
		r.ask(r.place(p), "a parameter that does not exist")
		for _, q := range f.Params[i+1:] {
			r.ask(p != q, "equal parameters")
		}
		r.ask(!r.bound || p == i, "a parameter in another place")
	}
	for i, c := range f.Init {
		if c == -1 || r.fault != "" {
			continue
		}
		r.ask(r.cell(c), "Init of no cell")
		r.ask(r.bound || f.Kinds[f.Params[i]] == 0, "Init of a pointer")
	}
}

func (r *reader) place(p int) bool { return 0 <= p && p < len(r.f.Kinds) }

func (r *reader) cell(c int) bool { return 0 <= c && c < r.f.Cells }

func (r *reader) node(n api.Node) {
	row, exists := rowsOf()[n.Op]
	if !exists {
		r.ask(false, "no operation")
		return
	}
	for _, word := range row[1:] {
		if r.fault == "" {
			r.use(n, word)
		}
	}
	if row[0] != "NRet" && row[0] != "NPanic" && row[0] != "NExit" {
		r.ask(n.Next >= 0 && n.Next < len(r.f.Nodes), "Next")
	}
}

func (r *reader) use(n api.Node, word string) {
	switch word {
	case "By":
		r.ask(n.By >= 7 && n.By <= 20, "By")
	case "Cell":
		r.ask(r.cell(n.Cell), "Cell")
	case "Else":
		r.ask(n.Else >= 0 && n.Else < len(r.f.Nodes), "Else")
	case "F":
		r.ask(n.F >= 0 && n.F < len(r.g.Funcs), "F")
	case "Args":
		r.args(n)
	case "Result":
		if n.D != -1 {
			r.ask(r.g.Funcs[n.F].Result, "a place for no result")
			r.kind(n.D, 'n')
			r.ask(!r.bound || n.D == 0, "a place that is not the first one")
		}
	case "Ends":
		if r.f.Result {
			r.kind(n.A, 'n')
		} else {
			r.ask(n.A == -1, "a number for no result")
		}
	case "Different":
		r.ask(n.D != n.E, "D and E are one")
	case "A=":
		r.ask(r.place(n.A), "A")
		r.ask(r.fault != "" || r.bound || r.f.Kinds[n.A] == r.f.Kinds[n.D], "different kinds")
	default:
		r.kind(map[byte]int{'D': n.D, 'E': n.E, 'A': n.A, 'B': n.B}[word[0]], word[1])
	}
}

func (r *reader) kind(p int, kind byte) {
	if !r.place(p) {
		r.ask(false, "a place that does not exist")
		return
	}
	is := "np"[r.f.Kinds[p]]
	r.ask(r.bound || kind == '=' || is == kind, "another kind")
}

func (r *reader) args(n api.Node) {
	called := r.g.Funcs[n.F]
	if len(n.Args) != len(called.Params) {
		r.ask(false, "another number of Args")
		return
	}
	for i, p := range n.Args {
		r.kind(p, "np"[called.Kinds[called.Params[i]]])
		r.ask(!r.bound || p == i, "Args in another order")
	}
}

package samples

import (
	"slices"
	"strconv"
	"strings"

	"windlass/api"
)

// Graphs of a text, of which all items are known; it answers false if they are
// not. The graphs of a program are separated by |, the items of one by
// semicolons. The first item may be a head, which begins with "graph"; all
// others are nodes, each of which continues with the one behind it. A node may
// have a name and a colon ahead of it. What follows its operation are its
// fields, as numbers, in the order in which layer 7's table has them; - is -1.
// A branch has its Else by name behind them, and a jump, which is a NNop, its
// Next; tell, fail and quit stand for a number and an out, a panic or an exit
// with it. Where a head says nothing, a graph has 24 places, which are numbers, 4
// cells, no parameters and no result, and keeps nothing.
func Graphs(text string) (api.Graphs, bool) {
	var g api.Graphs
	for part := range strings.SplitSeq(text, "|") {
		r := newGraphReader()
		r.read(part)
		if r.wrong {
			return api.Graphs{}, false
		}
		g.Funcs = append(g.Funcs, r.f)
	}
	return g, true
}

// graphReader reads the items of one graph.
type graphReader struct {
	f     api.Graph
	nodes []named
	jumps []jumpTo
	entry string // the name of a node
	wrong bool   // something is not known
}

// jumpTo is a node's field that is for another node, by its name.
type jumpTo struct {
	node   int
	isElse bool
	name   string
}

func newGraphReader() *graphReader {
	return &graphReader{f: api.Graph{Kinds: make([]api.Kind, 24), Cells: 4, Keep: -1}}
}

func (r *graphReader) read(text string) {
	for i, item := range strings.Split(text, ";") {
		words := strings.Fields(item)
		switch {
		case len(words) == 0:
		case i == 0 && words[0] == "graph":
			r.head(words[1:])
		default:
			r.item(words)
		}
	}
	for _, j := range r.jumps {
		n := &r.f.Nodes[j.node]
		if j.isElse {
			n.Else = r.called(j.name)
		} else {
			n.Next = r.called(j.name)
		}
	}
	if r.entry != "" {
		r.f.Entry = r.called(r.entry)
	}
}

func (r *graphReader) head(words []string) {
	for _, word := range words {
		name, list, _ := strings.Cut(word, "=")
		switch name {
		case "result":
			r.f.Result = true
		case "entry":
			r.entry = list
		case "params":
			r.f.Params = r.numbers(list)
			r.f.Init = slices.Repeat([]int{-1}, len(r.f.Params))
		case "init":
			r.f.Init = r.numbers(list)
		case "cells":
			r.f.Cells = r.number(list)
		case "keep":
			r.f.Keep = r.number(list)
		case "places":
			r.f.Kinds = make([]api.Kind, max(0, r.number(list)))
		case "ptrs":
			r.pointers(r.numbers(list))
		default:
			r.wrong = true
		}
	}
}

func (r *graphReader) pointers(places []int) {
	for _, p := range places {
		if p < 0 || p >= len(r.f.Kinds) {
			r.wrong = true
			continue
		}
		r.f.Kinds[p] = api.Ptr
	}
}

func (r *graphReader) numbers(list string) []int {
	var out []int
	for s := range strings.SplitSeq(list, ",") {
		out = append(out, r.number(s))
	}
	return out
}

func (r *graphReader) number(s string) int {
	if s == "-" {
		return -1
	}
	n, err := strconv.Atoi(s)
	if err != nil {
		r.wrong = true
	}
	return n
}

// item is a node, or two: tell, fail and quit have a number, which is written to
// place 15 first.
func (r *graphReader) item(words []string) {
	if name, ok := strings.CutSuffix(words[0], ":"); ok {
		r.nodes = append(r.nodes, named{name, len(r.f.Nodes)})
		words = words[1:]
	}
	if len(words) == 0 {
		r.wrong = true
		return
	}
	if op, ok := short(words[0]); ok {
		r.node(slices.Concat([]string{"const", "15"}, words[1:]))
		words = []string{op, "15"}
	}
	r.node(words)
}

// short is what an operation with a number stands for.
func short(name string) (op string, ok bool) {
	switch name {
	case "tell":
		return "out", true
	case "fail":
		return "panic", true
	case "quit":
		return "exit", true
	}
	return "", false
}

// called is the node of a name.
func (r *graphReader) called(name string) int {
	i := slices.IndexFunc(r.nodes, func(n named) bool { return n.name == name })
	if i < 0 {
		r.wrong = true
		return 0
	}
	return r.nodes[i].at
}

// binary are the operations Add to Below, in their order.
const binary = "add sub mul div rem and or xor shl shr sar eq lt below"

// nodes are the nodes' operations in their order, and the fields that follow
// them: C is the Cell, I the Imm, e the name of Else, n that of Next, and *
// stands for all Args.
const nodes = "const:DI move:DA bin:DAB get:DC set:CA addr:DC load:DA store:AB branch:Ae nop: call:FD* ret:A defer:F* panic:A recover:DE in:D out:A exit:A"

// Binary are the names of Add to Below, in their order.
func Binary() []string { return strings.Fields(binary) }

// begun is a node that has only its operation yet, and the fields that follow.
func begun(name string) (n api.Node, fields string, ok bool) {
	if i := slices.Index(Binary(), name); i >= 0 {
		n.By = api.Add + api.Op(i)
		name = "bin"
	} else if name == "bin" {
		return n, "", false
	}
	if name == "jump" {
		return api.Node{Op: api.NNop}, "n", true
	}
	for i, known := range strings.Fields(nodes) {
		if op, fields, _ := strings.Cut(known, ":"); op == name {
			n.Op = api.NConst + api.NodeOp(i)
			return n, fields, true
		}
	}
	return n, "", false
}

func (r *graphReader) node(words []string) {
	n, fields, ok := begun(words[0])
	n.Next = len(r.f.Nodes) + 1
	words = words[1:]
	fixed, many := strings.CutSuffix(fields, "*")
	if !ok || len(words) < len(fixed) || !many && len(words) > len(fixed) {
		r.wrong = true
		return
	}
	for i, field := range []byte(fixed) {
		r.field(&n, field, words[i])
	}
	for _, word := range words[len(fixed):] {
		n.Args = append(n.Args, r.number(word))
	}
	r.f.Nodes = append(r.f.Nodes, n)
}

func (r *graphReader) field(n *api.Node, field byte, word string) {
	switch field {
	case 'D':
		n.D = r.number(word)
	case 'E':
		n.E = r.number(word)
	case 'A':
		n.A = r.number(word)
	case 'B':
		n.B = r.number(word)
	case 'C':
		n.Cell = r.number(word)
	case 'F':
		n.F = r.number(word)
	case 'I':
		v, err := strconv.ParseUint(word, 10, 64)
		n.Imm, r.wrong = v, r.wrong || err != nil
	case 'e', 'n':
		r.jumps = append(r.jumps, jumpTo{len(r.f.Nodes), field == 'e', word})
	}
}

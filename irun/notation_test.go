package irun_test

import (
	"slices"
	"strconv"
	"strings"
	"testing"

	"windlass/api"
)

// Graphs are written as texts. Those of a program are separated by |, the items
// of one by semicolons. The first item may be a head, which begins with "graph";
// all others are nodes, each of which continues with the one behind it. A node
// may have a name and a colon ahead of it. What follows its operation are its
// fields, as numbers, in the order in which the chapter's table has them; - is
// -1. Where a head says nothing, a graph has 24 places, which are numbers, 4
// cells, no parameters and no result, and keeps nothing.

// aGraph is the graph of which a text tells.
type aGraph struct {
	t     testing.TB
	text  string
	f     api.Graph
	names map[string]int
	jumps []jump
	entry string
}

// jump is a field that a name is for.
type jump struct {
	node  int
	field func(n *api.Node) *int
	name  string
}

func next(n *api.Node) *int      { return &n.Next }
func elsewhere(n *api.Node) *int { return &n.Else }

// program of a text.
func program(t testing.TB, text string) api.Graphs {
	t.Helper()
	var g api.Graphs
	for part := range strings.SplitSeq(text, "|") {
		g.Funcs = append(g.Funcs, graphOf(t, part))
	}
	return g
}

func graphOf(t testing.TB, text string) api.Graph {
	t.Helper()
	a := &aGraph{t: t, text: text, names: map[string]int{}}
	a.f = api.Graph{Kinds: make([]api.Kind, 24), Cells: 4, Keep: -1}
	for i, item := range strings.Split(text, ";") {
		words := strings.Fields(item)
		switch {
		case len(words) == 0:
		case i == 0 && words[0] == "graph":
			a.head(words[1:])
		default:
			a.item(words)
		}
	}
	a.jump()
	return a.f
}

// head of a graph: its attributes.
func (a *aGraph) head(words []string) {
	for _, word := range words {
		name, list, _ := strings.Cut(word, "=")
		switch name {
		case "places":
			a.f.Kinds = make([]api.Kind, a.numbers(list)[0])
		case "ptrs":
			for _, p := range a.numbers(list) {
				a.f.Kinds[p] = api.Ptr
			}
		case "cells":
			a.f.Cells = a.numbers(list)[0]
		case "params":
			a.f.Params = a.numbers(list)
			a.f.Init = slices.Repeat([]int{-1}, len(a.f.Params))
		case "init":
			a.f.Init = a.numbers(list)
		case "result":
			a.f.Result = true
		case "keep":
			a.f.Keep = a.numbers(list)[0]
		case "entry":
			a.entry = list
		default:
			a.t.Fatalf("%q: a head has no %s", a.text, name)
		}
	}
}

func (a *aGraph) numbers(list string) []int {
	var out []int
	for s := range strings.SplitSeq(list, ",") {
		out = append(out, a.number(s))
	}
	return out
}

func (a *aGraph) number(s string) int {
	if s == "-" {
		return -1
	}
	n, err := strconv.Atoi(s)
	if err != nil {
		a.t.Fatalf("%q: %s is no number", a.text, s)
	}
	return n
}

// item is a node, or what stands for two: tell, fail and quit have a number.
func (a *aGraph) item(words []string) {
	if name, ok := strings.CutSuffix(words[0], ":"); ok {
		a.names[name] = len(a.f.Nodes)
		words = words[1:]
	}
	for short, op := range map[string]string{"tell": "out", "fail": "panic", "quit": "exit"} {
		if words[0] == short {
			a.node([]string{"const", "15", words[1]})
			words = []string{op, "15"}
		}
	}
	a.node(words)
}

func (a *aGraph) node(words []string) {
	n := a.nodeOf(words[0], words[1:])
	at := len(a.f.Nodes)
	n.Next = at + 1
	a.f.Nodes = append(a.f.Nodes, n)
	switch words[0] {
	case "branch":
		a.jumps = append(a.jumps, jump{at, elsewhere, words[2]})
	case "jump":
		a.jumps = append(a.jumps, jump{at, next, words[1]})
	}
}

func (a *aGraph) jump() {
	for _, j := range a.jumps {
		*j.field(&a.f.Nodes[j.node]) = a.named(j.name)
	}
	if a.entry != "" {
		a.f.Entry = a.named(a.entry)
	}
}

func (a *aGraph) named(name string) int {
	at, ok := a.names[name]
	if !ok {
		a.t.Fatalf("%q: no node has the name %s", a.text, name)
	}
	return at
}

// binary are the names of Add to Below, in their order.
var binary = []string{"add", "sub", "mul", "div", "rem", "and", "or", "xor", "shl", "shr", "sar", "eq", "lt", "below"}

// nodeOf an operation, without what it continues with.
func (a *aGraph) nodeOf(op string, w []string) api.Node {
	if op == "const" {
		v, err := strconv.ParseUint(w[1], 10, 64)
		if err != nil {
			a.t.Fatalf("%q: %s is no word", a.text, w[1])
		}
		return api.Node{Op: api.NConst, D: a.number(w[0]), Imm: v}
	}
	if i := slices.Index(binary, op); i >= 0 {
		return api.Node{Op: api.NBin, By: api.Add + api.Op(i), D: a.number(w[0]), A: a.number(w[1]), B: a.number(w[2])}
	}
	switch op {
	case "nop", "jump":
		return api.Node{Op: api.NNop}
	case "branch":
		return api.Node{Op: api.NBranch, A: a.number(w[0])}
	}
	f := make([]int, len(w))
	for i, s := range w {
		f[i] = a.number(s)
	}
	switch op {
	case "move":
		return api.Node{Op: api.NMove, D: f[0], A: f[1]}
	case "get":
		return api.Node{Op: api.NCellGet, D: f[0], Cell: f[1]}
	case "set":
		return api.Node{Op: api.NCellSet, Cell: f[0], A: f[1]}
	case "addr":
		return api.Node{Op: api.NAddr, D: f[0], Cell: f[1]}
	case "load":
		return api.Node{Op: api.NLoad, D: f[0], A: f[1]}
	case "store":
		return api.Node{Op: api.NStore, A: f[0], B: f[1]}
	case "call":
		return api.Node{Op: api.NCall, F: f[0], D: f[1], Args: f[2:]}
	case "ret":
		return api.Node{Op: api.NRet, A: f[0]}
	case "defer":
		return api.Node{Op: api.NDefer, F: f[0], Args: f[1:]}
	case "panic":
		return api.Node{Op: api.NPanic, A: f[0]}
	case "recover":
		return api.Node{Op: api.NRecover, D: f[0], E: f[1]}
	case "in":
		return api.Node{Op: api.NIn, D: f[0]}
	case "out":
		return api.Node{Op: api.NOut, A: f[0]}
	case "exit":
		return api.Node{Op: api.NExit, A: f[0]}
	}
	a.t.Fatalf("%q: there is no %s", a.text, op)
	return api.Node{}
}

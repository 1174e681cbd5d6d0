package build_test

import (
	"slices"
	"strconv"
	"testing"

	"windlass/api"
	"windlass/build"
	"windlass/code"
	"windlass/ir"
	"windlass/kinds"
	"windlass/samples"
)

// parse a text as samples has them.
func parse(t testing.TB, s string) api.Program {
	t.Helper()
	p, ok := samples.Program(s)
	if !ok {
		t.Fatalf("%q is no program", s)
	}
	return p
}

// built are the graphs of a program, which have all that P9.1 says of them.
func built(t testing.TB, p api.Program) api.Graphs {
	t.Helper()
	g, e := build.Build(p)
	if e != api.OK {
		t.Fatalf("Build returns %d for %s", int(e), samples.Printed(p))
	}
	if e := ir.Check(g, false); e != api.OK {
		t.Fatalf("layer 7 says %d of %v, for %s", int(e), g, samples.Printed(p))
	}
	if len(g.Funcs) != len(p.Funcs) {
		t.Fatalf("%d graphs, for %s", len(g.Funcs), samples.Printed(p))
	}
	for i, f := range p.Funcs {
		if wrong := wrongHead(f, g.Funcs[i]); wrong != "" {
			t.Fatalf("graph %d, %v: %s; it is for %s", i, g.Funcs[i], wrong, samples.Printed(p))
		}
	}
	return g
}

// wrongHead tells what is wrong with the graph of a function, if something is.
func wrongHead(f api.Func, g api.Graph) string {
	var kinds []api.Kind
	for _, p := range g.Params {
		kinds = append(kinds, g.Kinds[p])
	}
	switch {
	case !slices.Equal(kinds, f.Locals[:f.Params]):
		return "its parameters are others"
	case g.Result != f.Result:
		return "its Result is another"
	case (g.Keep == -1) != (f.Keep == -1):
		return "it keeps a cell, or it does not"
	case len(g.Nodes) > len(f.Code)+20:
		return "it has too many nodes"
	}
	for _, n := range g.Nodes {
		if !ir.Same(ofNode(n), ofNode(samples.Used(n))) {
			return "a node has something in a field that it does not use"
		}
	}
	return ""
}

func ofNode(n api.Node) api.Graphs {
	return api.Graphs{Funcs: []api.Graph{{Nodes: []api.Node{n}}}}
}

// checkNo holds that Build answers an error, and nothing else.
func checkNo(t testing.TB, name string, p api.Program, want api.Errno) {
	t.Helper()
	if g, e := build.Build(p); e != want || len(g.Funcs) > 0 {
		t.Errorf("%s: Build returns %v, %d; want nothing, %d", name, g, int(e), int(want))
	}
}

func TestP9_1Wrong(t *testing.T) {
	for _, x := range samples.AllWrong() {
		checkNo(t, x.Name, x.Program, x.Want)
		if _, e := kinds.Check(x.Program); e != x.Want {
			t.Errorf("%s: layer 5 says %d; want %d", x.Name, int(e), int(x.Want))
		}
	}
}

// TestP9_1WrongAnywhere: a function that is wrong behind others that are not.
func TestP9_1WrongAnywhere(t *testing.T) {
	for _, x := range samples.AllWrong() {
		if len(x.Program.Funcs) != 1 || x.Program.Funcs[0].Params > 0 || x.Program.Funcs[0].Result {
			continue
		}
		fine := parse(t, samples.Heading+"const 7; out; ret; func 1 n 1 0; get 0; ret")
		fine.Funcs = append(fine.Funcs, x.Program.Funcs...)
		_, want := kinds.Check(fine)
		if want != api.OK {
			checkNo(t, x.Name, fine, want)
		}
	}
}

func TestP9_1Examples(t *testing.T) {
	for _, x := range samples.All() {
		built(t, parse(t, x.Whole()))
	}
	for _, s := range samples.Endless() {
		built(t, parse(t, s))
	}
	built(t, samples.Great())
	if n := len(built(t, parse(t, "func 0 - 0 -; const 7; out; ret")).Funcs[0].Nodes); n > 23 {
		t.Errorf("%d nodes", n)
	}
}

// TestP9_1Heads: all kinds of up to four parameters, with and without a result,
// and each local kept that may be, or none.
func TestP9_1Heads(t *testing.T) {
	for params := range 5 {
		for bits := range 1 << params {
			locals := ""
			for i := range params {
				locals += string("np"[bits>>i&1])
			}
			for keep := -1; keep < params+2; keep++ {
				if keep >= 0 && (locals + "nn")[keep] == 'p' {
					continue
				}
				k := "-"
				if keep >= 0 {
					k = strconv.Itoa(keep)
				}
				head := "; func " + strconv.Itoa(params) + " " + locals + "nn "
				p := parse(t, samples.Heading+"ret"+head+"0 "+k+"; ret"+head+"1 "+k+"; in; ret"+head+"0 "+k+"; addr "+strconv.Itoa(params)+"; drop; ret")
				built(t, p)
			}
		}
	}
}

// sized is a program of one function with n instructions.
func sized(n, locals int, unit []api.Instr, end ...api.Instr) api.Program {
	f := api.Func{Locals: make([]api.Kind, locals), Keep: -1}
	for len(f.Code)+len(unit)+len(end) <= n {
		f.Code = append(f.Code, unit...)
	}
	for len(f.Code)+len(end) < n {
		f.Code = append(f.Code, api.Instr{Op: api.Jump, Arg: len(f.Code) + 1})
	}
	f.Code = append(f.Code, end...)
	return api.Program{Funcs: []api.Func{f}}
}

// TestP9_1Sizes: functions of each size, with all instructions reachable, only
// the first one, and every other one.
func TestP9_1Sizes(t *testing.T) {
	ret := api.Instr{Op: api.Ret}
	units := [][]api.Instr{
		{{Op: api.In}, {Op: api.Drop}},
		{{Op: api.In}, {Op: api.Out}, {Op: api.Recover}, {Op: api.Drop}, {Op: api.Drop}},
		{{Op: api.Defer}},
		{{Op: api.Call}},
		{{Op: api.In}, {Op: api.Dup}, {Op: api.Sub}, {Op: api.Exit}},
	}
	for n := 1; n <= api.MaxCode; n++ {
		for _, unit := range units {
			built(t, sized(n, 0, unit, ret))
			built(t, sized(n, 16, unit, ret))
		}
		for l := range 16 {
			built(t, sized(n, 16, []api.Instr{{Op: api.Addr, Arg: l}, {Op: api.Get, Arg: 15 - l}, {Op: api.Store}}, ret))
		}
		unreached := sized(n, 0, []api.Instr{{Op: api.Add}})
		unreached.Funcs[0].Code[0] = ret
		built(t, unreached)
		some := sized(n, 16, []api.Instr{{Op: api.Add}})
		for i := range n {
			if i%2 == 0 {
				some.Funcs[0].Code[i] = api.Instr{Op: api.Jump, Arg: i + 2}
			}
		}
		some.Funcs[0].Code[(n-1)/2*2] = ret
		built(t, some)
	}
}

func TestP9_1SizeOfAllLocals(t *testing.T) {
	for n := range 17 {
		f := api.Func{Locals: make([]api.Kind, n), Keep: -1}
		for l := range n {
			f.Code = append(f.Code, api.Instr{Op: api.Addr, Arg: l}, api.Instr{Op: api.Drop})
		}
		f.Code = append(f.Code, api.Instr{Op: api.Ret})
		built(t, api.Program{Funcs: []api.Func{f}})
	}
}

// TestP9_1Argument: nothing of it is changed, nor what lies behind its lists,
// and two builds of it are the same.
func TestP9_1Argument(t *testing.T) {
	m := samples.New(9)
	list := []api.Program{samples.Great()}
	for _, x := range samples.All() {
		list = append(list, parse(t, x.Whole()))
	}
	for range 300 {
		list = append(list, m.Program())
	}
	for _, p := range list {
		p = samples.Roomy(p)
		whole := samples.Wholly(p)
		first := built(t, p)
		if !code.Same(whole, samples.Wholly(p)) {
			t.Fatalf("%s: the argument is changed", samples.Printed(p))
		}
		copied := ir.Copy(first)
		checkApart(t, first)
		if !code.Same(whole, samples.Wholly(p)) {
			t.Fatalf("%s: the result and the argument share memory", samples.Printed(p))
		}
		if second := built(t, p); !ir.Same(copied, second) {
			t.Fatalf("%s: %v, and then %v", samples.Printed(p), copied, second)
		}
	}
}

// checkApart holds that no two lists of graphs share memory. It spoils them.
func checkApart(t *testing.T, g api.Graphs) {
	t.Helper()
	var ints [][]int
	for i := range g.Funcs {
		f := &g.Funcs[i]
		ints = append(ints, f.Params[:cap(f.Params)], f.Init[:cap(f.Init)])
		for _, n := range f.Nodes {
			ints = append(ints, n.Args[:cap(n.Args)])
		}
	}
	for i, list := range ints {
		fill(list, i)
	}
	for i, list := range ints {
		if !filled(list, i) {
			t.Fatalf("%v: two lists share memory", g)
		}
	}
	for i, f := range g.Funcs {
		fill(f.Kinds[:cap(f.Kinds)], api.Kind(i))
		fill(f.Nodes[:cap(f.Nodes)], api.Node{Imm: uint64(i)})
	}
	for i, f := range g.Funcs {
		same := slices.ContainsFunc(f.Nodes, func(n api.Node) bool { return n.Imm != uint64(i) })
		if same || !filled(f.Kinds, api.Kind(i)) {
			t.Fatalf("two lists share memory, of graph %d", i)
		}
	}
	fill(g.Funcs[:cap(g.Funcs)], api.Graph{})
}

func fill[T any](list []T, v T) {
	for i := range list {
		list[i] = v
	}
}

func filled[T comparable](list []T, v T) bool {
	for _, x := range list {
		if x != v {
			return false
		}
	}
	return true
}

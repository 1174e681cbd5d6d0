package lower_test

import (
	"strconv"
	"strings"
	"testing"

	"windlass/api"
	"windlass/samples"
)

// graphs of a text.
func graphs(t testing.TB, text string) api.Graphs {
	t.Helper()
	g, ok := samples.Graphs(text)
	if !ok {
		t.Fatalf("%q: no graphs", text)
	}
	return g
}

// used is graphs whose nodes have nothing in fields that they do not use.
func used(g api.Graphs) api.Graphs {
	for _, f := range g.Funcs {
		for i, n := range f.Nodes {
			f.Nodes[i] = samples.Used(n)
		}
	}
	return g
}

// lists of a text: of each graph's numbers.
func lists(t testing.TB, text string) [][]int {
	t.Helper()
	var out [][]int
	for part := range strings.SplitSeq(text, "|") {
		var list []int
		for _, word := range strings.Fields(part) {
			n, err := strconv.Atoi(word)
			if err != nil {
				t.Fatalf("%q: %v", text, err)
			}
			list = append(list, n)
		}
		out = append(out, list)
	}
	return out
}

// version of what graphs may become.
type version struct {
	bound, place, start string
	want                string // a word of what is told; "" if nothing is
}

func checkVersions(t *testing.T, free string, list []version) {
	t.Helper()
	for _, x := range list {
		plan := api.Plan{Place: lists(t, x.place), Start: lists(t, x.start)}
		got := fault(graphs(t, free), used(graphs(t, x.bound)), plan)
		if (got == "") != (x.want == "") || !strings.Contains(got, x.want) {
			t.Errorf("%s; %s; %s: %q; want %q", x.bound, x.place, x.start, got, x.want)
		}
	}
}

// TestRulesOfCalls: each rule finds what breaks it, and nothing else.
func TestRulesOfCalls(t *testing.T) {
	const (
		free   = "graph places=4; const 0 5; const 1 3; call 1 2 1 0; out 2; out 0; ret -; out 1; ret - | graph places=3 params=1,0 result; sub 0 0 1; ret 0"
		callee = " | graph places=16 params=0,1 result; sub 1 1 0; ret 1"
		bound  = "graph places=16; const 6 5; const 0 3; move 1 6; call 1 0; out 0; out 6; ret -" + callee
		place  = "6 0 0 -1 | 1 0 -1"
		start  = "0 1 2 4 5 6 -1 -1 | 0 1"
	)
	// A call's arguments are in order, read bound.
	with := func(s string) string { return strings.Replace(s, "call 1 0;", "call 1 0 0 1;", 1) }
	caller := func(s string) string { return with("graph places=16; " + s + callee) }
	checkVersions(t, free, []version{
		{with(bound), place, start, ""},
		{with(bound), "6 0 0 7 | 1 0 15", start, ""},
		{caller("nop; const 6 5; nop; const 0 3; move 1 6; nop; call 1 0; nop; out 0; out 6; ret -"), place, "1 3 4 7 9 10 -1 -1 | 0 1", ""},
		{caller("nop; const 6 5; nop; const 0 3; move 1 6; nop; call 1 0; nop; out 0; out 6; ret -"), place, "0 2 4 8 9 10 -1 -1 | 0 1", ""},
		{caller("const 6 5; const 0 3; move 1 6; call 1 0; move 3 0; out 3; out 6; ret -"), "6 0 3 -1 | 1 0 -1", "0 1 2 5 6 7 -1 -1 | 0 1", ""},
		{caller("const 6 5; const 0 3; move 1 6; call 1 0; move 3 0; out 3; out 6; ret -"), place, "0 1 2 5 6 7 -1 -1 | 0 1", "graph 0: node 3: reads another word"},
		{caller("const 6 5; const 0 3; move 1 6; call 1 0; move 3 0; out 3; out 6; ret -"), place, "0 1 2 4 6 7 -1 -1 | 0 1", ""},
		{"graph places=17; const 16 5; const 0 3; move 1 16; call 1 0 0 1; out 0; out 16; ret -" + callee, "16 0 0 -1 | 1 0 -1", start, ""},

		{bound, place, start, "not valid, read bound"},
		{"graph places=16; const 6 5; const 0 3; move 1 6; out 6; ret -", place, start, "as many graphs"},
		{with(bound), "6 0 0 -1", start, "as many graphs"},
		{with(bound), place, "0 1 2 4 5 6 -1 -1", "as many graphs"},
		{with(bound), "6 0 0 | 1 0 -1", start, "graph 0: a bound place each"},
		{with(bound), "6 0 0 -1 | 1 0 -1 -1", start, "graph 1: a bound place each"},
		{with(bound), "6 0 0 -2 | 1 0 -1", start, "place 3 has -2"},
		{with(bound), "6 0 0 16 | 1 0 -1", start, "place 3 has 16"},
		{with(bound), place, "0 1 2 4 5 6 -1 | 0 1", "a start each"},
		{with(bound), place, "0 1 2 4 5 6 6 -1 | 0 1", "node 6 is not reachable"},
		{with(bound), place, "0 1 2 4 5 -1 -1 -1 | 0 1", "node 5 begins nowhere"},
		{with(bound), place, "0 1 2 4 5 7 -1 -1 | 0 1", "node 5 begins nowhere"},
		{with(bound), place, "0 1 2 4 5 5 -1 -1 | 0 1", "nodes 4 and 5 begin at one"},

		{with(bound), "-1 0 0 -1 | 1 0 -1", start, "node 0: place 0 is not kept on the way to 1"},
		{with(bound), "7 0 0 -1 | 1 0 -1", start, "node 0: place 0 is not kept"},
		{with(bound), "6 6 0 -1 | 1 0 -1", start, "node 1: place 1 is not kept on the way to 2"},
		{caller("const 6 5; const 6 3; move 1 6; call 1 0; out 0; out 6; ret -"), "6 6 0 -1 | 1 0 -1", start, "node 1: place 0 is not kept on the way to 2"},
		{with(bound), "6 0 6 -1 | 1 0 -1", start, "place 2 is not kept on the way to 3"},
		{with(bound), "6 0 0 -1 | 0 1 -1", start, "graph 1: place 0 is not kept on the way to 0"},
		{with(bound), "6 0 0 -1 | 1 1 -1", start, "graph 1: place 1 is not kept on the way to 0"},
		{with(bound), place, "1 0 2 4 5 6 -1 -1 | 0 1", "graph 0: no way to 0"},
		{with(bound), place, "0 1 3 4 5 6 -1 -1 | 0 1", "node 2: argument 1"},
		{with(bound), place, "0 1 2 5 4 6 -1 -1 | 0 1", "no way to 3"},

		{caller("const 6 5; const 0 3; nop; call 1 0; out 0; out 6; ret -"), place, start, "argument 1 is another word"},
		{caller("const 6 5; const 0 3; move 1 0; call 1 0; out 0; out 6; ret -"), place, start, "argument 1 is another word"},
		{caller("const 6 5; const 0 3; move 0 6; call 1 0; out 0; out 6; ret -"), place, start, "argument 0 is another word"},
		{caller("const 6 5; const 0 3; const 1 5; call 1 0; out 0; out 6; ret -"), place, start, "node 2: is another one"},
		{caller("const 5 5; const 0 3; move 1 5; call 1 0; out 0; out 5; ret -"), "5 0 0 -1 | 1 0 -1", start, "node 2: place 0 is not kept on the way to 3"},
		{caller("const 12 5; const 0 3; move 1 12; call 1 0; out 0; out 12; ret -"), "12 0 0 -1 | 1 0 -1", start, "node 2: place 0 is not kept on the way to 3"},
		{caller("const 13 5; const 0 3; move 1 13; call 1 0; out 0; out 13; ret -"), "13 0 0 -1 | 1 0 -1", start, "uses 13"},
		{"graph places=16; const 6 5; const 0 3; move 1 6; call 1 - 0 1; out 0; out 6; ret -" + callee, place, start, "has a number"},
		{"graph places=16; const 6 5; const 0 3; move 1 6; call 2 0 0 1; out 0; out 6; ret -" + callee + callee, place, start, "as many graphs"},
		{"graph places=16; const 6 5; const 0 3; move 1 6; call 1 0 0 1; out 6; out 6; ret -" + callee, place, start, "node 3: reads another word"},
		{caller("const 6 6; const 0 3; move 1 6; call 1 0; out 0; out 6; ret -"), place, start, "node 0: is another one"},
		{caller("const 6 5; const 0 3; move 1 6; call 1 0; panic 0; out 6; ret -"), place, start, "node 3: is another one"},
		{caller("const 6 5; const 0 3; move 1 6; call 1 0; in 6; out 0; out 6; ret -"), place, start, "node 3: is another one"},
		{caller("const 6 5; const 0 3; move 1 6; call 1 0; in 6; out 0; out 6; ret -"), place, "0 1 2 5 6 7 -1 -1 | 0 1", "node 2: no way to 3"},

		{with(strings.Replace(bound, "result; sub 1 1 0; ret 1", "result cells=3; sub 1 1 0; ret 1", 1)), place, start, "graph 1: other Cells"},
		{with(strings.Replace(bound, "result; sub 1 1 0; ret 1", "result init=2,-; sub 1 1 0; ret 1", 1)), place, start, "graph 1: another Init"},
		{with(strings.Replace(bound, "result; sub 1 1 0; ret 1", "result keep=0; sub 1 1 0; ret 1", 1)), place, start, "graph 1: another Keep"},
		{with(strings.Replace(bound, "result; sub 1 1 0; ret 1", "result ptrs=1; sub 1 1 0; ret 1", 1)), place, start, "graph 1: register 1 has not its kind"},
		{with(strings.Replace(bound, "sub 1 1 0", "sub 1 0 1", 1)), place, start, "graph 1: node 0: reads another word"},
		{with(strings.Replace(bound, "sub 1 1 0", "add 1 1 0", 1)), place, start, "graph 1: node 0: is another one"},
		{with(strings.Replace(bound, "sub 1 1 0", "sub 2 1 0", 1)), place, start, "graph 1: node 0: place 0 is not kept"},
		{with(strings.Replace(bound, "ret 1", "ret 0", 1)), place, start, "graph 1: node 1: reads another word"},
	})
}

// TestRulesOfHeads: a graph that no other one calls may have another head, and be
// valid.
func TestRulesOfHeads(t *testing.T) {
	free := "ret - | graph params=1,0 result; ret 0"
	place := strings.Repeat("-1 ", 24) + "| 1 0" + strings.Repeat(" -1", 22)
	checkVersions(t, free, []version{
		{"ret - | graph params=0,1 result; ret 1", place, "0 | 0", ""},
		{"ret - | graph params=0 result; ret 1", place, "0 | 0", "graph 1: other parameters"},
		{"ret - | graph params=0,1; ret -", place, "0 | 0", "graph 1: another Result"},
	})
}

// TestRulesOfWays: branches, moves, and what the Entry begins with.
func TestRulesOfWays(t *testing.T) {
	const (
		free  = "graph places=3; top: branch 0 end; move 1 0; move 0 2; jump top; end: out 1; ret -"
		place = "0 1 16"
		start = "3 4 5 6 7 8"
	)
	head := "graph places=17 entry=begin; "
	checkVersions(t, free, []version{
		{head + "begin: const 0 0; const 1 0; nop; top: branch 0 end; move 1 0; move 0 16; jump top; end: out 1; ret -", place, start, ""},
		{head + "begin: const 0 0; move 1 0; nop; top: branch 0 end; move 1 0; move 0 16; jump top; end: out 1; ret -", place, start, ""},
		{head + "begin: move 0 16; move 1 16; nop; top: branch 0 end; move 1 0; move 0 16; jump top; end: out 1; ret -", place, start, ""},
		{head + "begin: const 0 0; const 1 0; nop; top: branch 0 end; move 1 0; move 0 16; nop; jump top; end: out 1; ret -", place, "3 4 5 6 8 9", ""},
		{head + "begin: const 0 0; const 1 0; nop; top: branch 0 off; move 1 0; move 0 16; jump top; end: out 1; ret -; off: nop; jump end", place, start, ""},
		{head + "begin: const 0 0; const 1 1; nop; top: branch 0 end; move 1 0; move 0 16; jump top; end: out 1; ret -", place, start, "no way to 0"},
		{head + "begin: const 0 0; nop; nop; top: branch 0 end; move 1 0; move 0 16; jump top; end: out 1; ret -", place, start, "place 1 is not kept on the way to 0"},
		{head + "begin: const 0 0; const 1 0; nop; top: branch 0 end; nop; move 0 16; jump top; end: out 1; ret -", place, start, "node 1: place 1 is not kept on the way to 2"},
		{head + "begin: const 0 0; const 1 0; nop; top: branch 0 end; move 1 0; move 0 1; jump top; end: out 1; ret -", place, start, "node 2: place 0 is not kept on the way to 3"},
		{head + "begin: const 0 0; const 1 0; nop; top: branch 0 end; move 1 0; in 0; jump top; end: out 1; ret -", place, start, "node 2: is not there"},
		{head + "begin: const 0 0; const 1 0; nop; top: branch 0 begin; move 1 0; move 0 16; jump top; end: out 1; ret -", place, start, "node 0: no way to 4"},
		{head + "begin: const 0 0; const 1 0; nop; top: branch 0 end; move 1 0; move 0 16; jump end; end: out 1; ret -", place, start, "node 3: no way to 0"},
		{head + "begin: const 0 0; const 1 0; nop; top: branch 0 end; move 1 0; move 0 16; on: jump on; end: out 1; ret -", place, start, "node 3: no way to 0"},
		{head + "begin: const 0 0; const 1 0; nop; top: branch 0 end; move 1 0; move 0 16; jump begin; end: out 1; ret -", place, start, "node 3: no way to 0"},
		{head + "begin: const 0 0; const 1 0; nop; top: branch 1 end; move 1 0; move 0 16; jump top; end: out 1; ret -", place, start, "node 0: reads another word"},
		{head + "begin: const 0 0; const 1 0; nop; top: branch 0 end; move 1 0; move 0 16; jump top; end: out 1; ret -", "1 0 16", start, "node 0: reads another word"},
		{"graph places=17 ptrs=16 entry=begin; begin: const 0 0; const 1 0; nop; top: branch 0 end; move 1 0; move 0 16; jump top; end: out 1; ret -", place, start, "slot 16 has not its kind"},
		{"graph places=17; top: branch 0 end; move 1 0; move 0 16; jump top; end: out 1; ret -", place, "0 1 2 3 4 5", "place 0 is not kept on the way to 0"},
	})
}

// TestRulesOfPointers: they have slots over calls.
func TestRulesOfPointers(t *testing.T) {
	for _, op := range []string{"call 1 -", "defer 1"} {
		free := "graph places=2 ptrs=0; addr 0 1; " + op + "; load 1 0; ret - | ret -"
		rest := " | -1" + strings.Repeat(" -1", 23)
		checkVersions(t, free, []version{
			{"graph places=17 ptrs=16; addr 16 1; " + op + "; load 1 16; ret - | ret -", "16 1" + rest, "0 1 2 3 | 0", ""},
			{"graph places=17 ptrs=16; addr 16 2; " + op + "; load 1 16; ret - | ret -", "16 1" + rest, "0 1 2 3 | 0", "node 0: is another one"},
			{"graph places=17 ptrs=16; addr 6 1; " + op + "; load 1 6; ret - | ret -", "6 1" + rest, "0 1 2 3 | 0", "node 1: pointer 0 has no slot"},
		})
	}
	free := "graph places=3 ptrs=0; addr 0 1; recover 1 2; store 0 1; out 2; ret -"
	checkVersions(t, free, []version{
		{"graph places=16; addr 4 1; recover 5 3; store 4 5; out 3; ret -", "4 5 3", "0 1 2 3 4", ""},
		{"graph places=16; addr 4 1; recover 3 5; store 4 5; out 3; ret -", "4 5 3", "0 1 2 3 4", "node 1: place 1 is not kept"},
		{"graph places=16; addr 4 1; recover 4 3; store 4 4; out 3; ret -", "4 4 3", "0 1 2 3 4", "node 1: place 0 is not kept"},
		{"graph places=16; addr 4 1; recover 5 3; store 5 4; out 3; ret -", "4 5 3", "0 1 2 3 4", "node 2: reads another word"},
	})
}

// TestRulesOfFields: nothing is left where no operation uses it.
func TestRulesOfFields(t *testing.T) {
	free := graphs(t, "graph places=16; const 0 5; out 0; ret -")
	plan := api.Plan{Place: [][]int{make([]int, 16)}, Start: [][]int{{0, 1, 2}}}
	if told := fault(free, used(graphs(t, "graph places=16; const 0 5; out 0; ret -")), plan); told != "" {
		t.Errorf("where nothing is left: %q", told)
	}
	for i := range free.Funcs[0].Nodes {
		for v := -1; v < 2; v += 2 {
			bound := used(graphs(t, "graph places=16; const 0 5; out 0; ret -"))
			samples.FillUnused(&bound.Funcs[0].Nodes[i], v)
			if told := fault(free, bound, plan); !strings.Contains(told, "does not use") {
				t.Errorf("%d in node %d: %q", v, i, told)
			}
		}
	}
}

package order_test

import (
	"slices"
	"strconv"
	"strings"
	"testing"

	"windlass/api"
	"windlass/ir"
	"windlass/order"
	"windlass/samples"
)

// graphs of a text (samples.Graphs), which are valid, read free.
func graphs(t testing.TB, text string) api.Graphs {
	t.Helper()
	g, ok := samples.Graphs(text)
	if !ok || ir.Check(g, false) != api.OK {
		t.Fatalf("%q is a text of graphs: %v; layer 7 says %d", text, ok, int(ir.Check(g, false)))
	}
	return g
}

func lineOf(t testing.TB, g api.Graphs, f int) []int {
	t.Helper()
	line, e := order.Line(g, f)
	if e != api.OK {
		t.Fatalf("Line returns %d for graph %d of %v", int(e), f, g)
	}
	return line
}

func spansOf(t testing.TB, g api.Graphs, f int) []api.Interval {
	t.Helper()
	spans, e := order.Spans(g, f)
	if e != api.OK {
		t.Fatalf("Spans returns %d for graph %d of %v", int(e), f, g)
	}
	return spans
}

// toldLine is a line as a text.
func toldLine(line []int) string {
	var words []string
	for _, node := range line {
		words = append(words, strconv.Itoa(node))
	}
	return strings.Join(words, " ")
}

// toldSpans are intervals as a text: 3:0-7 is place 3 from 0 to 7, with an h
// behind it if it is held over a call.
func toldSpans(spans []api.Interval) string {
	var words []string
	for _, s := range spans {
		word := strconv.Itoa(s.Place) + ":" + strconv.Itoa(s.From) + "-" + strconv.Itoa(s.To)
		if s.Held {
			word += "h"
		}
		words = append(words, word)
	}
	return strings.Join(words, " ")
}

// example is a program, and the line and the intervals of one of its graphs.
type example struct {
	text        string
	graph       int
	line, spans string
}

func check(t *testing.T, list ...example) {
	t.Helper()
	for _, x := range list {
		g := graphs(t, x.text)
		if got := toldLine(lineOf(t, g, x.graph)); got != x.line {
			t.Errorf("%q: the line is %s; want %s", x.text, got, x.line)
		}
		if got := toldSpans(spansOf(t, g, x.graph)); got != x.spans {
			t.Errorf("%q: the intervals are %s; want %s", x.text, got, x.spans)
		}
	}
}

func TestP12_1Chapter(t *testing.T) {
	g := api.Graphs{Funcs: []api.Graph{{Kinds: make([]api.Kind, 1), Keep: -1, Nodes: []api.Node{
		{Op: api.NConst, D: 0, Next: 2},
		{Op: api.NRet, A: -1},
		{Op: api.NOut, A: 0, Next: 1},
	}}}}
	if line, spans := toldLine(lineOf(t, g, 0)), toldSpans(spansOf(t, g, 0)); line != "0 2 1" || spans != "0:0-1" {
		t.Errorf("the line is %s, the intervals are %s", line, spans)
	}
}

// Nodes one behind the other.
func TestP12_1Straight(t *testing.T) {
	check(t,
		example{text: "ret -", line: "0", spans: ""},
		example{text: "graph places=0; ret -", line: "0", spans: ""},
		example{text: "graph places=0; nop; ret -", line: "0 1", spans: ""},
		example{text: "const 0 7; out 0; ret -", line: "0 1 2", spans: "0:0-1"},
		// Written, and never read.
		example{text: "const 0 7; ret -", line: "0 1", spans: "0:0-0"},
		example{text: "nop; in 3; nop; ret -", line: "0 1 2 3", spans: "3:1-1"},
		// Written twice: it is in use at both, and not between them.
		example{text: "in 3; nop; nop; in 3; ret -", line: "0 1 2 3 4", spans: "3:0-3"},
		example{text: "in 3; out 3; nop; in 3; nop; out 3; ret -", line: "0 1 2 3 4 5 6", spans: "3:0-5"},
		// Read, and never written; read, and written further on.
		example{text: "nop; nop; out 3; nop; ret -", line: "0 1 2 3 4", spans: "3:0-2"},
		example{text: "nop; out 3; nop; in 3; ret -", line: "0 1 2 3 4", spans: "3:0-3"},
		// At one node read and written.
		example{text: "nop; add 3 3 4; out 3; ret -", line: "0 1 2 3", spans: "3:0-2 4:0-1"},
		example{text: "in 0; move 1 0; move 2 1; out 2; ret -", line: "0 1 2 3 4", spans: "0:0-1 1:1-2 2:2-3"},
		example{text: "in 0; move 0 0; ret -", line: "0 1 2", spans: "0:0-1"},
		// Two places are written.
		example{text: "nop; recover 1 2; ret -", line: "0 1 2", spans: "1:1-1 2:1-1"},
		example{text: "nop; recover 2 1; out 2; out 1; ret -", line: "0 1 2 3 4", spans: "1:1-3 2:1-2"},
		// In the order of the places, whichever comes first in the line.
		example{text: "in 23; in 5; in 3; out 5; out 3; out 23; ret -", line: "0 1 2 3 4 5 6", spans: "3:2-4 5:1-3 23:0-5"},
		// Pointers as numbers; cells are no places.
		example{text: "graph ptrs=1,2; addr 1 0; move 2 1; store 2 0; get 3 0; set 1 3; ret -", line: "0 1 2 3 4 5", spans: "0:0-2 1:0-1 2:1-2 3:3-4"},
		// All ends of a graph.
		example{text: "in 0; panic 0; out 1; ret -", line: "0 1", spans: "0:0-1"},
		example{text: "in 0; exit 0; out 1; ret -", line: "0 1", spans: "0:0-1"},
		example{text: "ret - | graph result; in 0; ret 0; out 1; ret 2", graph: 1, line: "0 1", spans: "0:0-1"},
	)
}

// The line does not go by the nodes' numbers, and begins with the Entry.
func TestP12_1Entry(t *testing.T) {
	check(t,
		example{text: "graph entry=c; a: out 0; ret -; c: in 0; jump a", line: "2 3 0 1", spans: "0:0-2"},
		example{text: "graph entry=d; a: jump e; b: jump a; c: jump b; d: jump c; e: ret -", line: "3 2 1 0 4", spans: ""},
		example{text: "graph entry=b; a: in 0; b: out 0; ret -", line: "1 2", spans: "0:0-0"},
		example{text: "graph entry=c; in 0; out 0; c: ret -", line: "2", spans: ""},
		// The Entry is in a loop.
		example{text: "graph entry=b; a: in 0; b: out 0; jump a", line: "1 2 0", spans: "0:0-2"},
		example{text: "graph entry=b; a: ret -; b: branch 5 a; in 4; jump b", line: "1 0 2 3", spans: "4:2-2 5:0-3"},
	)
}

// What is reached through Next is left ahead of what is reached through Else, so
// it comes behind it in the line.
func TestP12_1Branches(t *testing.T) {
	check(t,
		example{text: "branch 0 a; out 1; ret -; a: out 2; ret -", line: "0 3 4 1 2", spans: "0:0-0 1:0-3 2:0-1"},
		example{text: "branch 0 a; out 1; jump b; a: out 2; b: ret -", line: "0 3 1 2 4", spans: "0:0-0 1:0-2 2:0-1"},
		example{text: "branch 0 a; in 1; jump b; a: in 2; b: out 1; out 2; ret -", line: "0 3 1 2 4 5 6", spans: "0:0-0 1:0-4 2:0-5"},
		// Both ways lead to one node.
		example{text: "branch 0 a; a: out 1; ret -", line: "0 1 2", spans: "0:0-0 1:0-1"},
		// One way is a part of the other.
		example{text: "branch 0 a; out 1; a: ret -", line: "0 1 2", spans: "0:0-0 1:0-1"},
		example{text: "branch 0 a; jump b; a: out 1; b: ret -", line: "0 2 1 3", spans: "0:0-0 1:0-1"},
		example{text: "branch 0 b; a: ret -; b: out 1; jump a", line: "0 2 3 1", spans: "0:0-0 1:0-1"},
		// All that is reached through Next, though the other way there is short.
		example{text: "branch 0 d; nop; nop; d: out 1; ret -", line: "0 1 2 3 4", spans: "0:0-0 1:0-3"},
		// Else leads to what Next leads to further on, and to something of its own.
		example{text: "branch 0 e; nop; branch 1 d; c: ret -; d: jump c; e: branch 2 d; jump c", line: "0 5 6 1 2 4 3", spans: "0:0-0 1:0-4 2:0-1"},
		// A branch in each way of a branch.
		example{text: "branch 0 d; branch 1 c; ret -; c: ret -; d: branch 2 e; ret -; e: ret -", line: "0 4 6 5 1 3 2", spans: "0:0-0 1:0-4 2:0-1"},
		// The ways cross: each leads to the other's end.
		example{text: "branch 0 d; a: branch 1 e; b: ret -; d: branch 2 b; e: jump b", line: "0 3 1 4 2", spans: "0:0-0 1:0-2 2:0-1"},
		// A place that is live on a way that is not in use where the line has the other one.
		example{text: "in 0; branch 1 a; out 0; ret -; a: nop; nop; ret -", line: "0 1 4 5 6 2 3", spans: "0:0-5 1:0-1"},
	)
}

func TestP12_1Loops(t *testing.T) {
	check(t,
		// What a loop is left to stands ahead of its body, or behind it.
		example{text: "in 0; a: branch 0 b; out 0; jump a; b: ret -", line: "0 1 4 2 3", spans: "0:0-4"},
		example{text: "in 0; a: branch 0 c; ret -; c: out 0; jump a", line: "0 1 3 4 2", spans: "0:0-3"},
		// What the loop reads around it is in use up to its end.
		example{text: "a: out 0; in 1; in 0; nop; jump a", line: "0 1 2 3 4", spans: "0:0-4 1:1-1"},
		example{text: "in 0; a: in 1; out 1; branch 0 a; ret -", line: "0 1 2 3 4", spans: "0:0-3 1:1-2"},
		// A node that continues with itself.
		example{text: "a: jump a; ret -", line: "0", spans: ""},
		example{text: "in 0; a: branch 0 a; ret -", line: "0 1 2", spans: "0:0-1"},
		example{text: "in 0; jump a; b: ret -; a: branch 0 b; jump a", line: "0 1 3 2 4", spans: "0:0-4"},
		// A loop that nothing leaves.
		example{text: "in 0; a: out 0; in 0; jump a", line: "0 1 2 3", spans: "0:0-3"},
		// A loop in a loop, and one with two ways into it.
		example{text: "a: in 0; b: branch 0 a; out 1; branch 2 b; ret -", line: "0 1 2 3 4", spans: "0:0-3 1:0-3 2:0-3"},
		example{text: "branch 0 b; a: in 1; b: out 1; branch 2 a; out 3; ret -", line: "0 1 2 3 4 5", spans: "0:0-0 1:0-2 2:0-3 3:0-4"},
		example{text: "branch 0 b; a: jump c; b: jump a; c: branch 1 b; ret -", line: "0 1 3 2 4", spans: "0:0-0 1:0-3"},
		// Around the loop it is Else, or Next, that leads back.
		example{text: "jump d; b: out 0; ret -; d: branch 1 b; in 0; jump d", line: "0 3 1 2 4 5", spans: "0:0-5 1:0-5"},
	)
}

// Nodes that are not reachable from the Entry are not in the line, and what they
// do is not seen; what is live there may have an interval all the same.
func TestP12_1Unreachable(t *testing.T) {
	check(t,
		example{text: "ret -; out 5; in 6; call 1 -; out 7; ret - | ret -", line: "0", spans: ""},
		example{text: "jump b; a: out 5; b: out 6; in 5; out 7; ret -", line: "0 2 3 4 5", spans: "5:2-2 6:0-1 7:0-3"},
		example{text: "in 0; jump b; a: call 1 -; b: out 0; ret - | ret -", line: "0 1 3 4", spans: "0:0-2"},
		example{text: "jump c; a: branch 0 c; b: jump a; c: ret -; d: branch 1 d; jump a", line: "0 3", spans: ""},
		example{text: "panic 0; out 1; ret -", line: "0", spans: "0:0-0"},
	)
}

// The places of parameters are in use at position 0.
func TestP12_1Parameters(t *testing.T) {
	check(t,
		example{text: "ret - | graph params=7,2; ret -", graph: 1, line: "0", spans: "2:0-0 7:0-0"},
		example{text: "ret - | graph params=7,2,0,23 ptrs=23 init=1,-,1,-; nop; ret -", graph: 1, line: "0 1", spans: "0:0-0 2:0-0 7:0-0 23:0-0"},
		example{text: "ret - | graph params=7,2; nop; out 7; nop; ret -", graph: 1, line: "0 1 2 3", spans: "2:0-0 7:0-1"},
		// Written ahead of being read, or written alone.
		example{text: "ret - | graph params=7,2; nop; nop; in 7; out 7; in 2; ret -", graph: 1, line: "0 1 2 3 4 5", spans: "2:0-4 7:0-3"},
		example{text: "ret - | graph params=1; in 1; ret -", graph: 1, line: "0 1", spans: "1:0-0"},
		// The Entry is another node than 0.
		example{text: "ret - | graph params=1 entry=b; a: out 1; ret -; b: nop; in 1; jump a", graph: 1, line: "2 3 4 0 1", spans: "1:0-3"},
		example{text: "ret - | graph params=1 entry=b; a: in 1; b: ret -", graph: 1, line: "1", spans: "1:0-0"},
		// Those of the other graphs are not meant, nor are those that a call hands over.
		example{text: "nop; call 1 - 0 1; ret - | graph params=7,2; ret - | graph params=3; ret -", line: "0 1 2", spans: "0:0-1 1:0-1"},
		example{text: "nop; call 1 - 0 1; ret - | graph params=7,2; ret - | graph params=3; nop; ret -", graph: 2, line: "0 1", spans: "3:0-0"},
		// What is kept, and what a parameter is laid in too, are cells.
		example{text: "ret - | graph params=1 init=3 keep=2; nop; ret -", graph: 1, line: "0 1", spans: "1:0-0"},
	)
}

// callees are graphs: 1 has nothing, 2 a parameter, 3 a result, 4 both.
const callees = " | ret - | graph params=0; ret - | graph result; ret 0 | graph params=0 result; ret 0"

func checkCalls(t *testing.T, list ...example) {
	t.Helper()
	for i := range list {
		list[i].text += callees
	}
	check(t, list...)
}

func TestP12_1Held(t *testing.T) {
	checkCalls(t,
		example{text: "in 0; call 1 -; out 0; ret -", line: "0 1 2 3", spans: "0:0-2h"},
		example{text: "in 0; defer 1; out 0; ret -", line: "0 1 2 3", spans: "0:0-2h"},
		example{text: "call 1 -; out 0; ret -", line: "0 1 2", spans: "0:0-1h"},
		// Arguments are held only if they are live after it.
		example{text: "in 0; call 2 - 0; ret -", line: "0 1 2", spans: "0:0-1"},
		example{text: "in 0; call 2 - 0; out 0; ret -", line: "0 1 2 3", spans: "0:0-2h"},
		example{text: "in 0; defer 2 0; ret -", line: "0 1 2", spans: "0:0-1"},
		example{text: "in 0; defer 2 0; out 0; ret -", line: "0 1 2 3", spans: "0:0-2h"},
		example{text: "in 0; call 2 - 0; in 0; out 0; ret -", line: "0 1 2 3 4", spans: "0:0-3"},
		// What the call writes is not.
		example{text: "call 3 0; out 0; ret -", line: "0 1 2", spans: "0:0-1"},
		example{text: "in 0; call 4 0 0; out 0; ret -", line: "0 1 2 3", spans: "0:0-2"},
		example{text: "in 1; call 4 0 1; out 0; out 1; ret -", line: "0 1 2 3 4", spans: "0:1-2 1:0-3h"},
		example{text: "in 0; call 4 - 0; out 0; ret -", line: "0 1 2 3", spans: "0:0-2h"},
		example{text: "in 0; call 3 0; ret -", line: "0 1 2", spans: "0:0-1"},
		// By one call written, and held over another, in both orders.
		example{text: "call 3 5; call 3 6; out 5; out 6; ret -", line: "0 1 2 3 4", spans: "5:0-2h 6:1-3"},
		example{text: "in 5; call 1 -; out 5; call 3 5; out 5; ret -", line: "0 1 2 3 4 5", spans: "5:0-4h"},
		// In use on both sides of the call, or ahead of it alone.
		example{text: "in 0; out 0; call 1 -; in 0; out 0; ret -", line: "0 1 2 3 4 5", spans: "0:0-4"},
		example{text: "in 0; in 1; call 1 -; ret -", line: "0 1 2 3", spans: "0:0-0 1:1-1"},
		// Nodes that are neither a call nor deferring one.
		example{text: "in 0; in 1; recover 2 3; out 1; get 4 0; set 0 4; nop; const 5 5; move 6 5; add 7 6 5; branch 7 a; a: out 0; ret -", line: "0 1 2 3 4 5 6 7 8 9 10 11 12",
			spans: "0:0-11 1:1-3 2:2-2 3:2-2 4:4-5 5:7-9 6:8-9 7:9-10"},
		// In loops, and on one way of a branch alone.
		example{text: "a: call 1 -; out 0; jump a", line: "0 1 2", spans: "0:0-2h"},
		example{text: "in 0; a: out 0; in 0; call 1 -; jump a", line: "0 1 2 3 4", spans: "0:0-4h"},
		example{text: "in 0; in 1; a: out 1; in 0; call 3 1; branch 0 a; out 0; ret -", line: "0 1 2 3 4 5 6 7", spans: "0:0-6h 1:1-5"},
		example{text: "in 0; branch 1 a; call 1 -; ret -; a: out 0; ret -", line: "0 1 4 5 2 3", spans: "0:0-2 1:0-1"},
		example{text: "in 0; branch 1 a; nop; jump b; a: defer 1; b: out 0; ret -", line: "0 1 4 2 3 5 6", spans: "0:0-5h 1:0-1"},
		// In the interval there is a call that it is not held over: the other way of the branch has it.
		example{text: "in 0; branch 1 a; out 0; ret -; a: call 1 -; ret -", line: "0 1 4 5 2 3", spans: "0:0-4 1:0-1"},
		// Parameters, pointers, and graphs further on.
		example{text: "ret - | graph params=4,5 ptrs=5; call 0 -; load 4 5; ret -", graph: 1, line: "0 1 2", spans: "4:0-1 5:0-1h"},
		example{text: "ret - | graph params=4,5; defer 0; call 0 -; out 5; ret -", graph: 1, line: "0 1 2 3", spans: "4:0-0 5:0-2h"},
	)
}

// checkProbe holds the intervals of a program in which a probe's node is first.
func checkProbe(t *testing.T, name string, g api.Graphs, x samples.Probe, all bool) {
	t.Helper()
	uses := slices.Concat(x.Reads, x.Writes)
	lasts := []int{1, 2, 3, 4, 1, 2} // where what is behind it reads the places last
	var want []api.Interval
	for p := range 6 {
		s := api.Interval{Place: p}
		switch isUsed, isWritten := slices.Contains(uses, p), slices.Contains(x.Writes, p); {
		case all && !x.Ends:
			op := g.Funcs[0].Nodes[0].Op
			s.To, s.Held = lasts[p], (op == api.NCall || op == api.NDefer) && !isWritten
		case !isUsed:
			continue
		}
		want = append(want, s)
	}
	if got := toldSpans(spansOf(t, g, 0)); got != toldSpans(want) {
		t.Errorf("%q, with reads of all places behind it: %v; the intervals are %s; want %s", name, all, got, toldSpans(want))
	}
}

func TestP12_1Operations(t *testing.T) {
	for _, x := range samples.Probes() {
		for _, all := range []bool{false, true} {
			checkProbe(t, x.Node, graphs(t, x.Text(all)), x, all)
			for v := -2; v < 8; v++ {
				g := graphs(t, x.Text(all))
				samples.FillUnused(&g.Funcs[0].Nodes[0], v)
				checkProbe(t, x.Node+", where other fields have "+strconv.Itoa(v), g, x, all)
			}
		}
	}
}

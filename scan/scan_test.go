package scan_test

import (
	"fmt"
	"slices"
	"strconv"
	"strings"
	"testing"

	"windlass/api"
	"windlass/order"
	"windlass/samples"
	"windlass/scan"
)

// assigned is what each place of a graph has, by which no rule is broken.
func assigned(t testing.TB, g api.Graphs, f int) []int {
	t.Helper()
	bound, e := scan.Assign(g, f)
	if e != api.OK {
		t.Fatalf("Assign returns %d for graph %d of %v", int(e), f, g)
	}
	spans, e := order.Spans(g, f)
	if e != api.OK {
		t.Fatalf("layer 12 returns %d for graph %d of %v", int(e), f, g)
	}
	kinds := g.Funcs[f].Kinds
	if told := fault(kinds, spans, bound); told != "" {
		t.Fatalf("P13.1: graph %d of %v: %v: %s", f, g, bound, told)
	}
	if told := registersFault(kinds, spans, bound); told != "" {
		t.Fatalf("P13.2: graph %d of %v: %v: %s", f, g, bound, told)
	}
	return bound
}

// example is a program, and what the places of one of its graphs have: a letter
// behind each place that has something. The letter is r for a register, k for one
// that calls keep, s for a slot, h for k or s, and a for r or s. Places that
// are in one list of apart have different ones.
type example struct {
	text  string
	graph int
	want  string
	apart string
}

// callees are graphs: 1 has nothing, 2 a parameter, 3 a result, 4 both, 5 a
// pointer for a parameter.
const callees = " | ret - | graph params=0; ret - | graph result; ret 0 | graph params=0 result; ret 0 | graph params=0 ptrs=0; ret -"

func check(t *testing.T, list ...example) {
	t.Helper()
	for _, x := range list {
		g, ok := samples.Graphs(x.text + callees)
		if !ok {
			t.Fatalf("%q is no text of graphs", x.text)
		}
		bound := assigned(t, g, x.graph)
		if told := letterFault(bound, x.want); told != "" {
			t.Errorf("%q: %v: %s", x.text, bound, told)
		}
		for list := range strings.SplitSeq(x.apart, ",") {
			seen := map[int]string{}
			for _, p := range strings.Fields(list) {
				b := bound[number(p)]
				if seen[b] != "" {
					t.Errorf("%q: places %s and %s both have %d", x.text, seen[b], p, b)
				}
				seen[b] = p
			}
		}
	}
}

func number(s string) int {
	n, err := strconv.Atoi(s)
	if err != nil {
		panic(err)
	}
	return n
}

func letterFault(bound []int, want string) string {
	letters := map[int]byte{}
	for _, word := range strings.Fields(want) {
		last := len(word) - 1
		letters[number(word[:last])] = word[last]
	}
	for p, b := range bound {
		register, kept, slot := 0 <= b && b < 12, 6 <= b && b < 12, b >= 16
		ok := b == -1
		switch letters[p] {
		case 'r':
			ok = register
		case 'k':
			ok = kept
		case 's':
			ok = slot
		case 'h':
			ok = kept || slot
		case 'a':
			ok = register || slot
		}
		if !ok {
			return fmt.Sprintf("place %d is to have %q", p, letters[p])
		}
	}
	return ""
}

func TestP13_1Chapter(t *testing.T) {
	check(t, example{text: "const 0 7; out 0; ret -", want: "0r"})
	for _, node := range []string{"call 1 -", "defer 1"} {
		g, _ := samples.Graphs("graph ptrs=9; addr 9 0; " + node + "; store 9 3; ret -" + callees)
		if got := assigned(t, g, 0); got[9] != 16 {
			t.Errorf("%s: a pointer that is held over it has %d", node, got[9])
		}
	}
}

// Which places are in use together.
func TestP13_1Apart(t *testing.T) {
	check(t,
		example{text: "ret -"},
		example{text: "graph places=0; ret -"},
		example{text: "nop; in 23; ret -", want: "23r"},
		example{text: "in 3; out 3; in 5; out 5; ret -", want: "3r 5r"},
		example{text: "in 0; in 1; out 0; out 1; ret -", want: "0r 1r", apart: "0 1"},
		example{text: "in 0; in 1; in 2; out 1; in 3; out 3; out 2; out 0; ret -", want: "0r 1r 2r 3r", apart: "0 1 2, 0 2 3"},
		// A position has what the node there reads, and what it writes.
		example{text: "in 0; move 1 0; move 2 1; out 2; ret -", want: "0r 1r 2r", apart: "0 1, 1 2"},
		example{text: "add 3 4 5; out 3; ret -", want: "3r 4r 5r", apart: "3 4 5"},
		example{text: "in 0; call 4 1 0; out 1; ret -", want: "0r 1r", apart: "0 1"},
		example{text: "graph ptrs=7; load 8 7; out 8; ret -", want: "7r 8r", apart: "7 8"},
		// Written, and never read.
		example{text: "recover 1 2; ret -", want: "1r 2r", apart: "1 2"},
		example{text: "in 0; in 1; out 0; ret -", want: "0r 1r", apart: "0 1"},
		// Between two writes it is not live, but the interval goes on.
		example{text: "in 3; nop; in 4; nop; in 3; ret -", want: "3r 4r", apart: "3 4"},
		// Read before it is written.
		example{text: "in 0; out 0; out 1; ret -", want: "0r 1r", apart: "0 1"},
		// Parameters are in use at position 0, though nothing reads them.
		example{text: "ret - | graph params=7,2; ret -", graph: 1, want: "2r 7r", apart: "2 7"},
		example{text: "ret - | graph params=7,2,0,23 ptrs=2,23; in 5; ret -", graph: 1, want: "0r 2r 5r 7r 23r", apart: "0 2 5 7 23"},
		example{text: "ret - | graph params=7,2; nop; in 4; out 7; ret -", graph: 1, want: "2r 4r 7r", apart: "2 7, 4 7"},
		// In a line in which the second way stands ahead of the first one, and around a loop.
		example{text: "in 0; branch 1 a; out 0; ret -; a: in 2; in 3; out 2; ret -", want: "0r 1r 2r 3r", apart: "0 1, 0 2 3"},
		example{text: "in 0; a: in 1; out 1; branch 0 a; in 2; out 2; ret -", want: "0r 1r 2r", apart: "0 1"},
		// Nodes that are not reachable.
		example{text: "ret -; out 5; in 6; call 1 -; out 7; ret -"},
		example{text: "jump b; a: in 5; out 7; b: out 6; ret -", want: "6r"},
		// Another graph's places.
		example{text: "ret - | ret - | graph params=3 places=4; in 1; out 1; out 3; ret -", graph: 2, want: "1r 3r", apart: "1 3"},
	)
}

// What is held over a call.
func TestP13_1Held(t *testing.T) {
	check(t,
		example{text: "in 0; call 1 -; out 0; ret -", want: "0k"},
		example{text: "in 0; defer 1; out 0; ret -", want: "0k"},
		example{text: "call 1 -; out 0; ret -", want: "0k"},
		example{text: "in 0; call 2 - 0; ret -", want: "0r"},
		example{text: "in 0; call 2 - 0; out 0; ret -", want: "0k"},
		example{text: "in 0; defer 2 0; out 0; ret -", want: "0k"},
		example{text: "call 3 0; out 0; ret -", want: "0r"},
		example{text: "in 0; in 1; call 4 0 1; out 0; out 1; ret -", want: "0r 1k", apart: "0 1"},
		example{text: "call 3 5; call 3 6; out 5; out 6; ret -", want: "5k 6r", apart: "5 6"},
		example{text: "a: call 1 -; out 0; jump a", want: "0k"},
		// Its interval goes over a call, but it is not live there.
		example{text: "in 0; out 0; call 1 -; in 0; out 0; ret -", want: "0r"},
		example{text: "in 0; branch 1 a; out 0; ret -; a: call 1 -; ret -", want: "0r 1r", apart: "0 1"},
		// Pointers.
		example{text: "graph ptrs=7; addr 7 0; call 1 -; store 7 3; ret -", want: "3h 7s"},
		example{text: "graph ptrs=7; addr 7 0; call 5 - 7; store 7 3; ret -", want: "3h 7s"},
		example{text: "graph ptrs=7; addr 7 0; defer 5 7; move 7 7; ret -", want: "7s"},
		example{text: "graph ptrs=7,8; addr 7 0; addr 8 1; call 1 -; move 8 7; ret -", want: "7s 8a", apart: "7 8"},
		example{text: "graph ptrs=7,8; addr 7 0; addr 8 1; call 1 -; move 7 7; move 8 8; ret -", want: "7s 8s", apart: "7 8"},
		example{text: "ret - | graph params=4,5 ptrs=5; call 0 -; load 4 5; ret -", graph: 1, want: "4a 5s", apart: "4 5"},
		// Pointers that are not held.
		example{text: "graph ptrs=7; addr 7 0; call 1 -; ret -", want: "7r"},
		example{text: "graph ptrs=7; addr 7 0; call 5 - 7; ret -", want: "7r"},
		example{text: "graph ptrs=7; addr 7 0; store 7 3; call 1 -; ret -", want: "3r 7r", apart: "3 7"},
		example{text: "graph ptrs=7; addr 7 0; branch 1 a; store 7 3; ret -; a: call 1 -; ret -", want: "1r 3r 7r", apart: "1 3 7"},
		example{text: "graph ptrs=7; addr 7 0; move 7 7; call 1 -; addr 7 0; move 7 7; ret -", want: "7r"},
	)
}

// all of a text for the numbers from one to another.
func all(text string, from, to int) string {
	var out []string
	for i := from; i <= to; i++ {
		out = append(out, strings.ReplaceAll(text, "#", strconv.Itoa(i)))
	}
	return strings.Join(out, "")
}

// Six intervals at each position have registers.
func TestP13_2Six(t *testing.T) {
	const six = "0 1 2 3 4 5"
	check(t,
		example{text: all("in #; ", 0, 5) + all("out #; ", 0, 5) + "ret -", want: all("#r ", 0, 5), apart: six},
		example{text: all("in #; ", 0, 5) + "call 1 -; " + all("out #; ", 0, 5) + "ret -", want: all("#k ", 0, 5), apart: six},
		example{text: all("in #; ", 0, 5) + "defer 1; " + all("out #; ", 0, 5) + "ret -", want: all("#k ", 0, 5), apart: six},
		example{text: "graph ptrs=" + all("#,", 0, 4) + "5; " + all("addr # 0; ", 0, 5) + all("move # #; ", 0, 5) + "ret -", want: all("#r ", 0, 5), apart: six},
		// Read, but never written; parameters.
		example{text: all("out #; ", 0, 5) + "ret -", want: all("#r ", 0, 5), apart: six},
		example{text: "ret - | graph params=0,1,2,3 ptrs=2,3; " + all("out #; ", 4, 5) + "store 3 1; store 2 0; ret -", graph: 1, want: all("#r ", 0, 5), apart: six},
		example{text: "ret - | graph params=0,1,2,3; call 0 -; " + all("out #; ", 0, 5) + "ret -", graph: 1, want: all("#k ", 0, 5), apart: six},
		// Some are held: those that begin first, or last.
		example{text: all("in #; ", 0, 5) + "out 3; out 4; out 5; call 1 -; " + all("out #; ", 0, 2) + "ret -", want: all("#k ", 0, 2) + all("#r ", 3, 5), apart: six},
		example{text: all("in #; ", 0, 5) + "out 0; out 1; out 2; call 1 -; " + all("out #; ", 3, 5) + "ret -", want: all("#r ", 0, 2) + all("#k ", 3, 5), apart: six},
		// Pointers beside numbers that are held.
		example{text: "graph ptrs=5; " + all("in #; ", 0, 4) + "addr 5 0; store 5 3; call 1 -; " + all("out #; ", 0, 4) + "ret -", want: all("#k ", 0, 4) + "5r", apart: six},
		// The sixth is at one position alone.
		example{text: all("in #; ", 0, 4) + "call 1 -; in 5; " + all("out #; ", 0, 4) + "ret -", want: all("#k ", 0, 4) + "5r", apart: six},
		example{text: all("in #; ", 0, 3) + "call 1 -; add 5 4 4; " + all("out #; ", 0, 3) + "ret -", want: all("#k ", 0, 4) + "5r", apart: six},
		example{text: all("in #; ", 0, 3) + "call 1 -; recover 4 5; " + all("out #; ", 0, 3) + "ret -", want: all("#k ", 0, 3) + "4r 5r", apart: six},
	)
}

// Six intervals at each position, of more places: one begins where the position
// before it is another one's last.
func TestP13_2More(t *testing.T) {
	var turns, turnsHeld string
	for p := 6; p < 24; p++ {
		turns += fmt.Sprintf("out %d; in %d; ", p-6, p)
		turnsHeld += fmt.Sprintf("call 1 -; out %d; in %d; ", p-6, p)
	}
	check(t,
		example{text: all("in #; ", 0, 5) + turns + all("out #; ", 18, 23) + "ret -", want: all("#r ", 0, 23), apart: "0 1 2 3 4 5, 1 2 3 4 5 6, 18 19 20 21 22 23"},
		example{text: all("in #; ", 0, 5) + turnsHeld + "call 1 -; " + all("out #; ", 18, 23) + "ret -", want: all("#k ", 0, 23), apart: "0 1 2 3 4 5, 1 2 3 4 5 6, 18 19 20 21 22 23"},
		// Six that are held behind six that are not, and the other way.
		example{text: all("in #; ", 0, 5) + all("out #; in 1#; ", 0, 5) + "call 1 -; " + all("out 1#; ", 0, 5) + "ret -", want: all("#r 1#k ", 0, 5), apart: "0 1 2 3 4 5, 10 11 12 13 14 15"},
		example{text: all("in #; ", 0, 5) + "call 1 -; " + all("out #; in 1#; ", 0, 5) + all("out 1#; ", 0, 5) + "ret -", want: all("#k 1#r ", 0, 5), apart: "0 1 2 3 4 5, 10 11 12 13 14 15"},
		// A long one, and many short ones beside it.
		example{text: "in 0; " + all("in #; out #; ", 1, 23) + "out 0; ret -", want: all("#r ", 0, 23), apart: "0 1, 0 2, 0 23"},
		example{text: "in 0; " + all("in #; call 1 -; out #; ", 1, 23) + "out 0; ret -", want: all("#k ", 0, 23), apart: "0 1, 0 2, 0 23"},
	)
}

// More than six intervals at a position, or pointers that are held: any have
// slots, by the rules.
func TestP13_1Slots(t *testing.T) {
	check(t,
		example{text: all("in #; ", 0, 6) + "call 1 -; " + all("out #; ", 0, 6) + "ret -", want: all("#h ", 0, 6), apart: "0 1 2 3 4 5 6"},
		example{text: all("in #; ", 0, 12) + all("out #; ", 0, 12) + "ret -", want: all("#a ", 0, 12), apart: "0 1 2 3 4 5 6 7 8 9 10 11 12"},
		example{text: all("in #; ", 0, 23) + "call 1 -; " + all("out #; ", 0, 23) + "ret -", want: all("#h ", 0, 23), apart: all("# ", 0, 23)},
		example{text: "graph places=200; " + all("in #; ", 0, 199) + all("out #; ", 0, 199) + "ret -", want: all("#a ", 0, 199), apart: all("# ", 0, 199)},
		example{text: "graph ptrs=" + all("#,", 0, 22) + "23; " + all("addr # 0; ", 0, 23) + "call 1 -; " + all("move # #; ", 0, 23) + "ret -", want: all("#s ", 0, 23), apart: all("# ", 0, 23)},
		// A pointer's slot is no number's, though the one is in use no more.
		example{text: "graph ptrs=20; addr 20 0; call 1 -; move 20 20; " + all("in #; ", 0, 12) + "call 1 -; " + all("out #; ", 0, 12) + "ret -", want: all("#h ", 0, 12) + "20s", apart: all("# ", 0, 12) + "20"},
		example{text: "graph ptrs=20; " + all("in #; ", 0, 12) + "call 1 -; " + all("out #; ", 0, 12) + "addr 20 0; call 1 -; move 20 20; ret -", want: all("#h ", 0, 12) + "20s", apart: all("# ", 0, 12) + "20"},
		// As many slots as places.
		example{text: "graph places=1 ptrs=0; addr 0 0; call 1 -; move 0 0; ret -", want: "0s"},
		example{text: "graph places=3 ptrs=0,1,2; " + all("addr # 0; ", 0, 2) + "call 1 -; " + all("move # #; ", 0, 2) + "ret -", want: "0s 1s 2s", apart: "0 1 2"},
		// Pointers and numbers by turns.
		example{text: "graph ptrs=" + all("1#,", 0, 8) + "19; " + all("in #; addr 1# 0; ", 0, 9) + "call 1 -; " + all("store 1# #; ", 0, 9) + "ret -", want: all("#h 1#s ", 0, 9), apart: all("# ", 0, 19)},
	)
}

// Each operation, with what its node does not use.
func TestP13_1Operations(t *testing.T) {
	for _, x := range samples.Probes() {
		for _, all := range []bool{false, true} {
			for v := -2; v < 8; v++ {
				g, _ := samples.Graphs(x.Text(all))
				samples.FillUnused(&g.Funcs[0].Nodes[0], v)
				op := g.Funcs[0].Nodes[0].Op
				bound := assigned(t, g, 0)
				for p, b := range bound {
					calls := op == api.NCall || op == api.NDefer
					isWritten := slices.Contains(x.Writes, p)
					isUsed := isWritten || slices.Contains(x.Reads, p) || all && !x.Ends
					held := all && calls && !isWritten
					if isUsed != (b >= 0) || held && b < 6 || held && p >= 4 && b < 16 {
						t.Errorf("%q, with reads of all places behind it: %v: place %d has %d", x.Node, all, p, b)
					}
				}
			}
		}
	}
}

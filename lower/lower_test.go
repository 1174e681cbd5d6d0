package lower_test

import (
	"slices"
	"strconv"
	"strings"
	"testing"

	"windlass/api"
	"windlass/ir"
	"windlass/lower"
	"windlass/samples"
)

// lowered are what graphs become, and the plan, by which no rule is broken.
func lowered(t testing.TB, g api.Graphs) (api.Graphs, api.Plan) {
	t.Helper()
	b, plan, e := lower.Lower(g)
	if e != api.OK {
		t.Fatalf("Lower returns %d for %v", int(e), g)
	}
	if told := fault(g, b, plan); told != "" {
		t.Fatalf("P15.1 or P15.3: %v become %v, by %v: %s", g, b, plan, told)
	}
	return b, plan
}

// TestP15_1Exchange: the chapter's example.
func TestP15_1Exchange(t *testing.T) {
	seen := 0
	for _, args := range []string{"0 1", "1 0"} {
		g := graphs(t, "const 0 5; const 1 3; call 1 - "+args+"; ret - | graph params=0,1; out 0; out 1; ret -")
		b, plan := lowered(t, g)
		at := plan.Start[0][2]
		moves := 0
		for b.Funcs[0].Nodes[at+moves].Op == api.NMove {
			moves++
		}
		call := g.Funcs[0].Nodes[2]
		switch x, y := plan.Place[0][call.Args[0]], plan.Place[0][call.Args[1]]; {
		case x == 0 && y == 1:
			if moves != 0 {
				t.Errorf("%d moves where all is in its place", moves)
			}
		case x == 1 && y == 0:
			seen++
			if moves != 3 {
				t.Errorf("%d moves to exchange two words", moves)
			}
		}
	}
	if seen == 0 {
		t.Error("no call has its arguments in the other one's registers")
	}
}

// TestP15_1Heads: all kinds of parameters, with cells, a result and something
// kept, or not.
func TestP15_1Heads(t *testing.T) {
	for n := range 5 {
		for _, params := range permutations(n) {
			for kinds := range 1 << n {
				head := "graph places=" + strconv.Itoa(n+kinds%3)
				var ptrs []string
				if n > 0 {
					head += " params=" + params
					for p := range n {
						if kinds>>p&1 > 0 {
							ptrs = append(ptrs, strconv.Itoa(p))
						}
					}
				}
				if len(ptrs) > 0 {
					head += " ptrs=" + strings.Join(ptrs, ",")
				}
				for cells := range 3 {
					g := graphs(t, "ret - | "+head+" cells="+strconv.Itoa(cells)+" keep="+[]string{"-", "0", "1"}[cells]+"; ret -")
					f := &g.Funcs[1]
					for i, p := range f.Params {
						if f.Kinds[p] == api.Num && cells > 0 {
							f.Init[i] = i%(cells+1) - 1
						}
					}
					lowered(t, g)
				}
			}
		}
	}
}

// TestP15_1EachOperation: whatever is in the fields that it does not use.
func TestP15_1EachOperation(t *testing.T) {
	for _, x := range samples.Probes() {
		for _, all := range []bool{false, true} {
			g := graphs(t, x.Text(all))
			want, plan := lowered(t, g)
			for _, v := range []int{-1, 3, 1 << 40} {
				samples.FillUnused(&g.Funcs[0].Nodes[0], v)
				b, again := lowered(t, g)
				if !ir.Same(b, want) || !samePlan(plan, again) {
					t.Errorf("%s: with %d where it is not used, %v becomes %v", x.Node, v, want, b)
				}
			}
		}
	}
}

func samePlan(a, b api.Plan) bool {
	return slices.EqualFunc(a.Place, b.Place, slices.Equal) && slices.EqualFunc(a.Start, b.Start, slices.Equal)
}

// TestP15_1Unreachable: what is not reachable becomes nothing, and is not in the
// way.
func TestP15_1Unreachable(t *testing.T) {
	for _, text := range []string{
		"ret -; out 1; ret -",
		"graph entry=b; out 1; a: out 2; ret -; b: in 3; out 3; ret -; out 4; jump a",
		"graph entry=b; a: in 1; call 1 - 1; jump a; b: in 3; out 3; ret - | graph params=3; a: jump a; out 3; b: ret -; jump b",
		"quit 3; out 1; ret -", "fail 3; out 1; ret -",
		"in 1; branch 1 a; b: jump b; out 4; a: ret -",
		"in 1; branch 1 a; a: ret -; out 4; ret -",
	} {
		g := graphs(t, text)
		b, plan := lowered(t, g)
		for f, starts := range plan.Start {
			reachable := len(slices.DeleteFunc(starts, func(s int) bool { return s == -1 }))
			if n := len(b.Funcs[f].Nodes); n != reachable {
				t.Errorf("%s: graph %d has %d nodes, for %d that are reachable", text, f, n, reachable)
			}
		}
	}
}

// TestP15_1Loops: nodes that continue with themselves, or with the Entry.
func TestP15_1Loops(t *testing.T) {
	for _, text := range []string{
		"top: jump top",
		"nop; top: jump top",
		"top: branch 3 top; jump top",
		"graph entry=b; b: branch 3 b; b2: jump b",
		"top: out 3; jump top",
	} {
		g := graphs(t, text)
		behavesThroughout(t, g, nil)
		// Each node, by itself.
		for i := range g.Funcs[0].Nodes {
			one := ir.Copy(g)
			one.Funcs[0].Nodes[i].Next = i
			one.Funcs[0].Nodes[i].Else = i
			behavesThroughout(t, one, nil)
		}
	}
	for _, x := range samples.Probes() {
		g := graphs(t, x.Text(true))
		g.Funcs[0].Nodes[0].Next = 0
		g.Funcs[0].Nodes[0].Else = 0
		behavesThroughout(t, g, []uint64{3})
	}
}

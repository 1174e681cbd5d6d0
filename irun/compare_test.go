package irun_test

import (
	"testing"

	"windlass/api"
	"windlass/ir"
	"windlass/irun"
	"windlass/samples"
	"windlass/sem"
	"windlass/trace"
)

// same holds Run against the second reading, as far as that is sure.
func same(t testing.TB, g api.Graphs, bound bool, tape []uint64, fuel int) (api.Result, bool) {
	t.Helper()
	r := run(t, g, bound, tape, fuel)
	s, sure := reading(g, bound, tape, fuel)
	if sure && !sameResult(r, s) {
		t.Fatalf("%v, %s, with %v and fuel %d: Run says %s; the second reading says %s", g, wayOf(bound), tape, fuel, told(r), told(s))
	}
	if !trace.Prefix(s.Events, r.Events) || r.Steps < s.Steps || r.Steps > fuel || !trace.Ended(r.End) && (r.Steps != fuel || r.End != api.End{Kind: api.NoFuel}) {
		t.Fatalf("%v, %s, with %v and fuel %d: Run says %s; the second reading begins with %s", g, wayOf(bound), tape, fuel, told(r), told(s))
	}
	return r, sure
}

// twice is a function as bytecode and as a graph, which have as many steps.
type twice struct {
	code  api.Func
	graph api.Graph
}

// twiceOf acts: what function n panics with tells which one it is, and what
// recover leaves is told.
func twiceOf(n int, list []samples.Act) twice {
	w := twice{api.Func{Keep: -1}, api.Graph{Kinds: make([]api.Kind, 16), Keep: -1}}
	for k, a := range list {
		value := uint64(10*n + k)
		switch a.Op {
		case api.Recover:
			w.add(api.Instr{Op: api.Recover}, api.Node{Op: api.NRecover, D: 1, E: 2})
			w.add(api.Instr{Op: api.Out}, api.Node{Op: api.NOut, A: 2})
			w.add(api.Instr{Op: api.Out}, api.Node{Op: api.NOut, A: 1})
		case api.Panic:
			w.add(api.Instr{Op: api.Const, Imm: value}, api.Node{Op: api.NConst, D: 3, Imm: value})
			w.add(api.Instr{Op: api.Panic}, api.Node{Op: api.NPanic, A: 3})
		case api.Call:
			w.add(api.Instr{Op: api.Call, Arg: a.Function}, api.Node{Op: api.NCall, F: a.Function, D: -1})
		case api.Defer:
			w.add(api.Instr{Op: api.Defer, Arg: a.Function}, api.Node{Op: api.NDefer, F: a.Function})
		}
	}
	w.add(api.Instr{Op: api.Ret}, api.Node{Op: api.NRet, A: -1})
	return w
}

func (w *twice) add(i api.Instr, n api.Node) {
	w.code.Code = append(w.code.Code, i)
	n.Next = len(w.code.Code)
	w.graph.Nodes = append(w.graph.Nodes, n)
}

// TestP8_1AsLayer6: four functions, each of which does up to two things that
// make frames, end them, or ask about a panic, against their meaning.
func TestP8_1AsLayer6(t *testing.T) {
	var funcs [4][]twice
	for n, lists := range samples.ShortLists() {
		for _, l := range lists {
			funcs[n] = append(funcs[n], twiceOf(n, l))
		}
	}
	seen := samples.Tally{}
	for _, a := range funcs[0] {
		for _, b := range funcs[1] {
			for _, c := range funcs[2] {
				for _, d := range funcs[3] {
					seen.Count(asLayer6(t, a, b, c, d))
				}
			}
		}
	}
	if few := seen.Few(400); len(few) > 0 {
		t.Errorf("too few: %v", few)
	}
}

func asLayer6(t *testing.T, list ...twice) api.Result {
	t.Helper()
	var p api.Program
	var g api.Graphs
	for _, w := range list {
		p.Funcs = append(p.Funcs, w.code)
		g.Funcs = append(g.Funcs, w.graph)
	}
	want, e := sem.Run(p, nil, plenty)
	if e != api.OK {
		t.Fatalf("layer 6 says %d", int(e))
	}
	for _, bound := range []bool{false, true} {
		if r := run(t, g, bound, nil, plenty); !sameResult(r, want) {
			t.Fatalf("%v, %s: %s; layer 6 says %s", g, wayOf(bound), told(r), told(want))
		}
	}
	return want
}

// maker makes graphs that are valid in one way.
type maker struct {
	*samples.Maker
	bound bool
}

func (m maker) graphs() api.Graphs { return m.Graphs(m.bound) }

func makers(seed uint64) []maker {
	return []maker{{samples.New(seed), false}, {samples.New(seed), true}}
}

func TestP8_1ManyGraphs(t *testing.T) {
	for _, m := range makers(8) {
		seen := samples.Tally{}
		for range 40000 {
			g := m.graphs()
			if e := ir.Check(g, m.bound); e != api.OK {
				t.Fatalf("%s: layer 7 says %d of %v", wayOf(m.bound), int(e), g)
			}
			r, sure := same(t, g, m.bound, m.Tape(), m.Roll(600))
			if sure {
				seen.Count(r)
			} else {
				seen["not sure"]++
			}
		}
		if few := seen.Few(400, "no fuel"); len(few) > 0 {
			t.Errorf("too few: %v", few)
		}
		if seen["not sure"] > 10000 || !m.bound && seen["not sure"] > 0 {
			t.Errorf("%s: %d times a number is made of a pointer", wayOf(m.bound), seen["not sure"])
		}
	}
}

func TestP8_2ManyGraphs(t *testing.T) {
	for _, m := range makers(82) {
		for range 1000 {
			g, tape := m.graphs(), m.Tape()
			ladder(t, "a graph that was made", g, m.bound, tape, min(run(t, g, m.bound, tape, 200).Steps+3, 200))
		}
	}
}

// tryAny holds Run against layer 7 and the second reading, for any graphs.
func tryAny(t testing.TB, g api.Graphs, bound bool, tape []uint64, fuel int) api.Errno {
	t.Helper()
	want := ir.Check(g, bound)
	if want == api.OK {
		same(t, g, bound, tape, fuel)
	} else if r, e := irun.Run(g, bound, tape, fuel); e != want || !isZero(r) {
		t.Errorf("%v, %s: Run returns %s, %d; want nothing, %d", g, wayOf(bound), told(r), int(e), int(want))
	}
	return want
}

// TestP8_1ManySpoiltGraphs: Run answers what layer 7 does, or a run.
func TestP8_1ManySpoiltGraphs(t *testing.T) {
	for _, m := range makers(81) {
		seen := map[api.Errno]int{}
		for range 20000 {
			g := m.graphs()
			m.Spoil(&g)
			seen[tryAny(t, g, m.bound, m.Tape(), m.Roll(100))]++
			tryAny(t, g, !m.bound, nil, 100)
		}
		if seen[api.OK] < 1000 || seen[api.ErrNode] < 1000 {
			t.Errorf("%s, too few: %v", wayOf(m.bound), seen)
		}
	}
}

func FuzzRun(f *testing.F) {
	for i := range uint64(40) {
		f.Add(i, uint8(i), 50*int(i), i)
	}
	f.Fuzz(func(t *testing.T, seed uint64, changes uint8, fuel int, number uint64) {
		if fuel < 0 || fuel > 3000 {
			return
		}
		m := makers(seed)[changes%2]
		g := m.graphs()
		for range changes / 2 % 8 {
			m.Spoil(&g)
		}
		tryAny(t, g, m.bound, []uint64{number, 1}, fuel)
		tryAny(t, g, !m.bound, []uint64{number}, fuel)
	})
}

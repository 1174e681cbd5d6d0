package samples_test

import (
	"slices"
	"testing"

	"windlass/api"
	"windlass/code"
	"windlass/kinds"
	"windlass/samples"
)

func TestExamplesArePrograms(t *testing.T) {
	for _, x := range samples.All() {
		p, ok := x.Program()
		if _, e := kinds.Check(p); !ok || e != api.OK {
			t.Errorf("%q: it is a text: %v; layer 5 says %d", x.Code, ok, int(e))
		}
	}
}

func TestNames(t *testing.T) {
	p, ok := samples.Program("func 0 - 0 -; a: in; zero b; jump a; b: ret; func 0 - 0 -; b: jump b")
	want := []api.Func{
		{Keep: -1, Code: []api.Instr{{Op: api.In}, {Op: api.Zero, Arg: 3}, {Op: api.Jump}, {Op: api.Ret}}},
		{Keep: -1, Code: []api.Instr{{Op: api.Jump}}},
	}
	if !ok || !code.Same(p, api.Program{Funcs: want}) {
		t.Errorf("%s", samples.Printed(p))
	}
	if q, ok := samples.Program(samples.Printed(p)); !ok || !code.Same(p, q) {
		t.Errorf("%s, and read again %s", samples.Printed(p), samples.Printed(q))
	}
	if _, ok := samples.Program("func 0 - 0 -; jump nowhere"); ok {
		t.Error("a name that nothing has")
	}
}

// TestSeeds: one seed makes the same programs, two make others.
func TestSeeds(t *testing.T) {
	a, b, c := samples.New(1), samples.New(1), samples.New(2)
	for range 100 {
		p, q, r := a.Program(), b.Program(), c.Program()
		if !code.Same(p, q) || !slices.Equal(a.Tape(), b.Tape()) {
			t.Fatalf("%s and %s", samples.Printed(p), samples.Printed(q))
		}
		if code.Same(p, r) {
			t.Fatalf("two seeds: %s", samples.Printed(p))
		}
		c.Tape()
	}
}

func TestGreatHasAll(t *testing.T) {
	p := samples.Great()
	types, e := kinds.Check(p)
	if e != api.OK || len(p.Funcs) != api.MaxFuncs {
		t.Fatalf("layer 5 says %d of %d functions", int(e), len(p.Funcs))
	}
	for i, f := range p.Funcs {
		deepest := 0
		for _, stack := range types.Stacks[i] {
			deepest = max(deepest, len(stack))
		}
		if len(f.Code) != api.MaxCode || len(f.Locals) != api.MaxLocals || deepest != api.MaxDepth || i > 0 && f.Params != api.MaxParams {
			t.Errorf("function %d has %d instructions, %d locals, %d parameters, and %d words on its stack", i, len(f.Code), len(f.Locals), f.Params, deepest)
		}
	}
}

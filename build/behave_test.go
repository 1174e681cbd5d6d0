package build_test

import (
	"slices"
	"strconv"
	"strings"
	"testing"

	"windlass/api"
	"windlass/irun"
	"windlass/samples"
	"windlass/sem"
	"windlass/trace"
)

// meaning is what a program does.
func meaning(t testing.TB, p api.Program, tape []uint64, fuel int) api.Result {
	t.Helper()
	r, e := sem.Run(p, tape, fuel)
	if e != api.OK {
		t.Fatalf("layer 6 returns %d for %s with fuel %d", int(e), samples.Printed(p), fuel)
	}
	return r
}

// graphs' run.
func run(t testing.TB, g api.Graphs, tape []uint64, fuel int) api.Result {
	t.Helper()
	r, e := irun.Run(g, false, tape, fuel)
	if e != api.OK {
		t.Fatalf("layer 8 returns %d for %v with fuel %d", int(e), g, fuel)
	}
	return r
}

func told(r api.Result) string {
	return trace.Print(r.Events, r.End) + " in " + strconv.Itoa(r.Steps) + " steps"
}

func sameBehavior(a, b api.Result) bool {
	return slices.Equal(a.Events, b.Events) && a.End == b.End
}

// ends holds P9.2's first bound: the graphs' run ends as the program's, if that
// ends within some steps. It answers the program's run.
func ends(t testing.TB, p api.Program, g api.Graphs, tape []uint64, within int) api.Result {
	t.Helper()
	want := meaning(t, p, tape, within)
	if !trace.Ended(want.End) {
		return want
	}
	if got := run(t, g, tape, 4*want.Steps+8); !sameBehavior(got, want) {
		t.Fatalf("%s with %v does %s; its graphs, %v, do %s", samples.Printed(p), tape, told(want), g, told(got))
	}
	return want
}

// follows holds P9.2's second bound for one fuel: what the graphs do with it, the
// program does with 300 times as much. What the program does at length is known.
func follows(t testing.TB, p api.Program, g api.Graphs, tape []uint64, fuel int, long api.Result) api.Result {
	t.Helper()
	got := run(t, g, tape, fuel)
	most := 300 * (fuel + 1)
	want := long
	if !trace.Ended(long.End) || long.Steps > most {
		want = meaning(t, p, tape, most)
	}
	if !trace.Prefix(got.Events, want.Events) || trace.Ended(got.End) && !sameBehavior(got, want) {
		t.Fatalf("%s with %v does %s; its graphs, %v, with fuel %d do %s", samples.Printed(p), tape, told(want), g, fuel, told(got))
	}
	if !trace.Ended(got.End) && (got.End != api.End{Kind: api.NoFuel} || got.Steps != fuel) {
		t.Fatalf("%s with %v: its graphs, %v, with fuel %d end with %s", samples.Printed(p), tape, g, fuel, told(got))
	}
	return got
}

// behaves holds both bounds, for all fuels up to top or a little beyond the end
// of the graphs' run.
func behaves(t testing.TB, p api.Program, tape []uint64, top int) api.Result {
	t.Helper()
	g := built(t, p)
	long := ends(t, p, g, tape, samples.Plenty)
	beyond := 5
	for fuel := 0; fuel <= top && beyond > 0; fuel++ {
		if got := follows(t, p, g, tape, fuel, long); trace.Ended(got.End) {
			beyond--
		}
	}
	if trace.Ended(long.End) {
		follows(t, p, g, tape, samples.Plenty, long)
	}
	return long
}

// check holds what is to come of examples against their graphs, and their graphs
// against their meaning.
func check(t *testing.T, list []samples.Example) {
	t.Helper()
	for _, x := range list {
		p := parse(t, x.Whole())
		r := run(t, built(t, p), x.Tape, samples.Plenty)
		if got := trace.Print(r.Events, r.End); got != x.Want {
			t.Errorf("%q: %s; want %s", x.Code, got, x.Want)
		}
		top := 400
		if !trace.Ended(r.End) {
			top = 30
		}
		behaves(t, p, x.Tape, top)
	}
}

func TestP9_2Examples(t *testing.T)   { check(t, samples.Chapter()) }
func TestP9_2Operations(t *testing.T) { check(t, samples.Operations()) }
func TestP9_2Pointers(t *testing.T)   { check(t, samples.Pointers()) }
func TestP9_2Tape(t *testing.T)       { check(t, samples.Tapes()) }
func TestP9_2Stacks(t *testing.T)     { check(t, samples.Stacks()) }
func TestP9_2Jumps(t *testing.T)      { check(t, samples.Jumps()) }
func TestP9_2Parameters(t *testing.T) { check(t, samples.Parameters()) }
func TestP9_2Defers(t *testing.T)     { check(t, samples.Defers()) }
func TestP9_2Ends(t *testing.T)       { check(t, samples.Ends()) }
func TestP9_2Panics(t *testing.T)     { check(t, samples.Panics()) }
func TestP9_2Recover(t *testing.T)    { check(t, samples.Recovers()) }
func TestP9_2Kept(t *testing.T)       { check(t, samples.Kept()) }
func TestP9_2Lists(t *testing.T)      { check(t, samples.Lists()) }
func TestP9_2Greatest(t *testing.T)   { check(t, samples.Greatest()) }

// words at which the operations change what they do.
var words = []uint64{0, 1, 2, 3, 7, 8, 62, 63, 64, 65, 1<<63 - 1, 1 << 63, 1<<63 + 1, 1<<64 - 2, 1<<64 - 1}

func TestP9_2Reckoning(t *testing.T) {
	for op := api.Add; op <= api.Below; op++ {
		p := parse(t, samples.Heading+"in; in; add; out; ret")
		p.Funcs[0].Code[2].Op = op
		g := built(t, p)
		for _, a := range words {
			for _, b := range words {
				ends(t, p, g, []uint64{a, b}, samples.Plenty)
			}
		}
	}
	for _, w := range words {
		n := strconv.FormatUint(w, 10)
		check(t, []samples.Example{
			{Code: "const " + n + "; out; ret", Want: "out=" + n + " exit=0"},
			{Code: "const " + n + "; exit", Want: "exit=" + n},
			{Code: "const " + n + "; panic", Want: "panic=" + n},
		})
	}
}

// TestP9_2KeptLocals: each of sixteen locals that all have numbers of their own,
// and of which some are pointed to.
func TestP9_2KeptLocals(t *testing.T) {
	for keep := range 16 {
		for _, pointed := range []int{1, 2, 3, 16} {
			s := "call 1; out; ret; func 0 nnnnnnnnnnnnnnnn 1 " + strconv.Itoa(keep) + "; "
			for l := range 16 {
				n := strconv.Itoa(l)
				s += "const 1" + n + "; set " + n + "; "
				if l%pointed == 0 {
					s += "addr " + n + "; drop; "
				}
			}
			s += "defer 2; const 9; panic" + samples.Quiet
			check(t, []samples.Example{{Code: s, Want: "out=1" + strconv.Itoa(keep) + " exit=0"}})
		}
	}
}

// TestP9_2LocalsApart: sixteen locals of which each one is written in turn, by
// itself or through a pointer.
func TestP9_2LocalsApart(t *testing.T) {
	for one := range 16 {
		for _, write := range []string{"const 5; set N; ", "addr N; const 5; store; "} {
			s := "func 0 nnnnnnnnnnnnnnnn 0 -; addr 3; drop; addr 8; drop; " + strings.ReplaceAll(write, "N", strconv.Itoa(one))
			want := ""
			for l := range 16 {
				s += "get " + strconv.Itoa(l) + "; out; "
				if l == one {
					want += "out=5 "
				} else {
					want += "out=0 "
				}
			}
			check(t, []samples.Example{{Code: s + "ret", Want: want + "exit=0"}})
		}
	}
}

func TestP9_2Great(t *testing.T) {
	p := samples.Great()
	g := built(t, p)
	long := ends(t, p, g, nil, api.MaxFuel)
	if !trace.Ended(long.End) || len(long.Events) != 16 {
		t.Fatalf("it does %s", told(long))
	}
	for fuel := 0; fuel < 3000; fuel += 7 {
		follows(t, p, g, nil, fuel, long)
	}
}

func TestP9_2Endless(t *testing.T) {
	tape := []uint64{5, 6, 7}
	for _, s := range samples.Endless() {
		p := parse(t, s)
		if r := behaves(t, p, tape, 60); trace.Ended(r.End) {
			t.Errorf("%q ends: %s", s, told(r))
		}
		g := built(t, p)
		for _, fuel := range []int{100, 1000, 3494} {
			follows(t, p, g, tape, fuel, api.Result{})
		}
		r := run(t, g, tape, 4000)
		if some := meaning(t, p, tape, 300); !trace.Prefix(some.Events, r.Events) {
			t.Errorf("%q: the program has done %s, the graphs only %s", s, told(some), told(r))
		}
	}
}

// TestP9_2Deep: runs of many frames, many of which end in one step.
func TestP9_2Deep(t *testing.T) {
	for _, s := range []string{
		"in; call 1; ret; func 1 n 0 -; get 0; zero a; get 0; const 1; sub; call 1; a: ret",
		"in; defer 1; const 1; panic; func 1 n 0 -; get 0; zero a; get 0; const 1; sub; defer 1; a: get 0; panic",
		"func 0 n 0 -; in; addr 0; call 1; get 0; out; ret; func 2 np 0 -; get 0; zero a; get 0; const 1; sub; get 1; call 1; ret; a: get 1; const 8; store; ret",
	} {
		p := parse(t, samples.Example{Code: s}.Whole())
		if r := ends(t, p, built(t, p), []uint64{20000}, api.MaxFuel/4-2); !trace.Ended(r.End) {
			t.Errorf("%q: %s", s, told(r))
		}
	}
}

package sem_test

import (
	"math"
	"slices"
	"strings"
	"testing"

	"windlass/api"
	"windlass/code"
	"windlass/kinds"
	"windlass/sem"
	"windlass/trace"
)

// fuels around the bounds, and far beyond them.
var fuels = []int{math.MinInt, -1, 0, 1, api.MaxFuel - 1, api.MaxFuel, api.MaxFuel + 1, math.MaxInt}

func isZero(r api.Result) bool {
	return len(r.Events) == 0 && r.End == api.End{} && numbersOf(r) == numbers{}
}

// checkNo holds that Run answers an error with each fuel, and nothing else.
func checkNo(t *testing.T, name string, p api.Program, want api.Errno) {
	t.Helper()
	for _, fuel := range fuels {
		if r, e := sem.Run(p, []uint64{1}, fuel); e != want || !isZero(r) {
			t.Errorf("%s with fuel %d: Run returns %s, %d; want nothing, %d", name, fuel, told(r), int(e), int(want))
		}
	}
	if _, e := kinds.Check(p); e != want {
		t.Errorf("%s: layer 5 says %d; want %d", name, int(e), int(want))
	}
}

// altered is a program of one function that is fine but for what f does.
func altered(f func(*api.Func)) api.Program {
	g := api.Func{Locals: []api.Kind{api.Num, api.Ptr}, Keep: -1, Code: []api.Instr{{Op: api.In}, {Op: api.Out}, {Op: api.Ret}}}
	f(&g)
	return api.Program{Funcs: []api.Func{g}}
}

func TestP6_1ErrForm(t *testing.T) {
	checkNo(t, "no function", api.Program{}, api.ErrForm)
	checkNo(t, "256 functions", api.Program{Funcs: make([]api.Func, 256)}, api.ErrForm)
	for name, f := range map[string]func(*api.Func){
		"-1 parameters":          func(g *api.Func) { g.Params = -1 },
		"more parameters":        func(g *api.Func) { g.Params = 3 },
		"256 locals":             func(g *api.Func) { g.Locals = make([]api.Kind, 256) },
		"a kind 2":               func(g *api.Func) { g.Locals[1] = 2 },
		"a Keep of -2":           func(g *api.Func) { g.Keep = -2 },
		"a Keep of 255":          func(g *api.Func) { g.Keep = 255 },
		"65536 instructions":     func(g *api.Func) { g.Code = make([]api.Instr, 65536) },
		"an operation 0":         func(g *api.Func) { g.Code[0].Op = 0 },
		"an operation 33":        func(g *api.Func) { g.Code[0].Op = 33 },
		"an Arg":                 func(g *api.Func) { g.Code[0].Arg = 1 },
		"an Imm":                 func(g *api.Func) { g.Code[0].Imm = 1 },
		"an Arg of -1":           func(g *api.Func) { g.Code[2] = api.Instr{Op: api.Call, Arg: -1} },
		"an Arg of 256":          func(g *api.Func) { g.Code[2] = api.Instr{Op: api.Call, Arg: 256} },
		"a target of 65536":      func(g *api.Func) { g.Code[2] = api.Instr{Op: api.Jump, Arg: 65536} },
		"form ahead of a bound":  func(g *api.Func) { g.Code = make([]api.Instr, 257) },
		"form ahead of the kind": func(g *api.Func) { g.Code = []api.Instr{{Op: api.Out}, {Op: 77}} },
	} {
		checkNo(t, name, altered(f), api.ErrForm)
	}
}

func TestP6_1ErrBig(t *testing.T) {
	one := altered(func(*api.Func) {}).Funcs[0]
	checkNo(t, "17 functions", api.Program{Funcs: slices.Repeat([]api.Func{one}, 17)}, api.ErrBig)
	for name, f := range map[string]func(*api.Func){
		"17 locals":              func(g *api.Func) { g.Locals = make([]api.Kind, 17) },
		"5 parameters":           func(g *api.Func) { g.Params, g.Locals = 5, make([]api.Kind, 5) },
		"257 instructions":       func(g *api.Func) { g.Code = slices.Repeat([]api.Instr{{Op: api.Ret}}, 257) },
		"a bound ahead of kinds": func(g *api.Func) { g.Code = slices.Repeat([]api.Instr{{Op: api.Out}}, 257) },
		"17 words on the stack": func(g *api.Func) {
			g.Code = append(slices.Repeat([]api.Instr{{Op: api.In}}, 17), slices.Repeat([]api.Instr{{Op: api.Drop}}, 17)...)
			g.Code = append(g.Code, api.Instr{Op: api.Ret})
		},
		"17 words that recover leaves": func(g *api.Func) {
			g.Code = append(slices.Repeat([]api.Instr{{Op: api.In}}, 15), api.Instr{Op: api.Recover}, api.Instr{Op: api.Panic})
		},
	} {
		checkNo(t, name, altered(f), api.ErrBig)
	}
}

func TestP6_1ErrKind(t *testing.T) {
	for _, s := range []string{
		"func 1 n 0 -; ret",
		"func 0 - 1 -; const 1; ret",
		"func 0 - 0 -",
		head + "ret; func 0 - 0 -",
		"func 0 n 0 -; get 1; out; ret",
		"func 0 n 0 -; const 1; set 1; ret",
		"func 0 n 0 -; addr 1; drop; ret",
		"func 0 n 0 -; ret; get 1",
		head + "call 1; ret",
		head + "defer 1; ret",
		head + "ret; defer 1",
		head + "jump 1",
		head + "const 0; zero 9; ret",
		head + "ret; jump 2",
		"func 0 p 0 -; addr 0; drop; ret",
		"func 0 p 0 0; ret",
		"func 0 n 0 1; ret",
		head + "ret; func 0 - 1 -; defer 0; const 1; ret",
		head + "out; ret",
		head + "const 1; add; out; ret",
		head + "drop; ret",
		head + "dup; ret",
		head + "panic",
		head + "exit",
		head + "zero 0; ret",
		"func 0 n 0 -; set 0; ret",
		"func 0 p 0 -; get 0; out; ret",
		"func 0 p 0 -; const 0; set 0; ret",
		"func 0 n 0 -; addr 0; set 0; ret",
		head + "const 0; load; drop; ret",
		"func 0 n 0 -; addr 0; addr 0; store; ret",
		"func 0 n 0 -; const 1; const 1; store; ret",
		"func 0 n 0 -; addr 0; const 1; add; out; ret",
		head + "const 1; ret",
		head + "call 1; ret; func 1 n 0 -; ret",
		head + "const 1; call 1; ret; func 1 p 0 -; ret",
		"func 0 n 0 -; addr 0; const 1; call 1; ret; func 2 np 0 -; ret",
		head + "defer 1; ret; func 1 n 0 -; ret",
		head + "call 1; out; ret; func 0 - 0 -; ret",
		head + "call 1; ret; func 0 - 1 -; const 1; ret",
		head + "call 1; out; ret; func 0 - 1 -; ret",
		head + "const 1; const 1; zero 0; ret",
		head + "a: const 1; zero b; const 2; b: ret",
		head + "const 1",
		head + "const 0; zero 0",
		head + "call 0",
		"func 0 npn 0 -; a: get 1; const 1; store; const 1; jump a; ret",
	} {
		checkNo(t, s, parse(t, s), api.ErrKind)
	}
}

func TestP6_1ErrArg(t *testing.T) {
	for _, s := range []string{head + "jump 0", head + "const 7; out; ret", head + "const 1; panic"} {
		p := parse(t, s)
		for _, fuel := range fuels {
			want := api.OK
			if fuel < 0 || fuel > 1048576 {
				want = api.ErrArg
			}
			r, e := sem.Run(p, nil, fuel)
			if e != want || (e != api.OK && !isZero(r)) {
				t.Errorf("%s with fuel %d: Run returns %s, %d; want %d", s, fuel, told(r), int(e), int(want))
			}
		}
	}
}

func TestP6_1Fuel(t *testing.T) {
	for _, x := range []struct {
		s    string
		fuel int
		want string
	}{
		{"const 7; out; ret", 0, "fuel 0 1 0 0"},
		{"const 7; out; ret", 1, "fuel 1 1 0 0"},
		{"const 7; out; ret", 2, "out=7 fuel 2 1 0 0"},
		{"const 7; out; ret", 3, "out=7 exit=0 3 1 0 0"},
		{"const 7; out; ret", 4, "out=7 exit=0 3 1 0 0"},
		{"const 7; out; ret", api.MaxFuel, "out=7 exit=0 3 1 0 0"},
		{"const 7; exit", 1, "fuel 1 1 0 0"},
		{"const 7; exit", 2, "exit=7 2 1 0 0"},
		{"const 7; panic", 1, "fuel 1 1 0 0"},
		{"const 7; panic", 2, "panic=7 2 1 0 1"},
		{"defer 1; const 7; panic; " + head + "in; drop; ret", 3, "fuel 3 2 1 1"},
		{"defer 1; const 7; panic; " + head + "in; drop; ret", 5, "in=4 fuel 5 2 1 1"},
		{"defer 1; const 7; panic; " + head + "in; drop; ret", 6, "in=4 panic=7 6 2 1 1"},
		{"call 0; ret", 0, "fuel 0 1 0 0"},
		{"call 0; ret", 1, "fuel 1 2 0 0"},
		{"defer 0; ret", 2, "fuel 2 2 1 0"},
		{"jump 0", api.MaxFuel, "fuel 1048576 1 0 0"},
		{"call 0; ret", api.MaxFuel, "fuel 1048576 1048577 0 0"},
		{"defer 0; jump 0", api.MaxFuel, "fuel 1048576 1 524288 0"},
	} {
		if got := told(run(t, parse(t, head+x.s), []uint64{4}, x.fuel)); got != x.want {
			t.Errorf("%q with fuel %d: %s; want %s", x.s, x.fuel, got, x.want)
		}
	}
}

// TestP6_1Deep: a single step lets many frames end, or a panic through them.
func TestP6_1Deep(t *testing.T) {
	const n = 100000
	for _, x := range []struct{ s, want string }{
		{"in; call 1; ret; func 1 n 0 -; get 0; zero a; get 0; const 1; sub; call 1; a: ret", "in=100000 exit=0 700006 100002 0 0"},
		{"in; call 1; ret; func 1 n 0 -; get 0; zero a; get 0; const 1; sub; call 1; ret; a: const 9; panic", "in=100000 panic=9 600006 100002 0 1"},
		{"in; defer 1; ret; func 1 n 0 -; get 0; zero a; get 0; const 1; sub; defer 1; a: ret", "in=100000 exit=0 700006 100002 1 0"},
		{"in; defer 1; const 1; panic; func 1 n 0 -; get 0; zero a; get 0; const 1; sub; defer 1; a: get 0; panic", "in=100000 panic=0 800008 100002 1 100002"},
		{"in; call 2; const 8; out; ret; func 1 n 0 -; get 0; zero a; get 0; const 1; sub; call 1; ret; a: const 9; panic; func 1 n 0 -; defer 3; get 0; call 1; ret" + quiet, "in=100000 out=8 exit=0 600016 100003 1 1"},
		{"func 0 n 0 -; in; set 0; a: get 0; zero b; get 0; const 1; sub; set 0; defer 1; jump a; b: ret" + nothing, "in=100000 exit=0 900005 2 100000 0"},
		{"func 0 n 0 -; in; addr 0; call 1; get 0; out; ret; func 2 np 0 -; get 0; zero a; get 0; const 1; sub; get 1; call 1; ret; a: get 1; const 8; store; ret", "in=100000 out=8 exit=0 800012 100002 0 0"},
	} {
		p := parse(t, example{code: x.s}.whole())
		if got := told(run(t, p, []uint64{n}, api.MaxFuel)); got != x.want {
			t.Errorf("%q: %s; want %s", x.s, got, x.want)
		}
	}
}

// spare is a list with room behind it, in which there are marks.
func spare[T any](list []T, mark T) []T {
	out := append(slices.Clone(list), mark, mark)
	return out[:len(list)]
}

// TestP6_1Arguments: nothing of them is changed, nor what lies behind them.
func TestP6_1Arguments(t *testing.T) {
	for _, x := range allExamples() {
		p := parse(t, x.whole())
		p.Funcs = spare(p.Funcs, api.Func{Params: 77})
		for i := range p.Funcs {
			f := &p.Funcs[i]
			f.Locals = spare(f.Locals, 77)
			f.Code = spare(f.Code, api.Instr{Op: 77, Arg: 77, Imm: 77})
		}
		tape := spare(x.tape, 77)
		whole, wholeTape := wholly(p), slices.Clone(tape[:cap(tape)])
		first := run(t, p, tape, plenty)
		if !code.Same(whole, wholly(p)) || !slices.Equal(wholeTape, tape[:cap(tape)]) {
			t.Fatalf("%q: an argument is changed", x.code)
		}
		events := slices.Clone(first.Events)
		second := run(t, p, tape, plenty)
		if !sameResult(first, second) {
			t.Errorf("%q: %s, and then %s", x.code, told(first), told(second))
		}
		spoil(second.Events)
		for i := range tape[:cap(tape)] {
			tape[:cap(tape)][i] = 99
		}
		if !slices.Equal(first.Events, events) {
			t.Errorf("%q: two results share memory, or one the tape's", x.code)
		}
	}
}

// wholly is a copy of a program with what lies behind its lists.
func wholly(p api.Program) api.Program {
	p.Funcs = slices.Clone(p.Funcs[:cap(p.Funcs)])
	for i := range p.Funcs {
		f := &p.Funcs[i]
		f.Locals = slices.Clone(f.Locals[:cap(f.Locals)])
		f.Code = slices.Clone(f.Code[:cap(f.Code)])
	}
	return p
}

func spoil(events []api.Event) {
	events = events[:cap(events)]
	for i := range events {
		events[i] = api.Event{Kind: 99, Value: 99}
	}
}

// ladder holds P6.2: a run with each fuel up to top against the one with top.
func ladder(t testing.TB, p api.Program, tape []uint64, top int) {
	t.Helper()
	long := run(t, p, tape, top)
	ended := long.End.Kind == api.Exited || long.End.Kind == api.Uncaught
	if !ended && (long.End != api.End{Kind: api.NoFuel} || long.Steps != top) {
		t.Errorf("%s with fuel %d: %s", printed(p), top, told(long))
	}
	var before api.Result
	for fuel := range top {
		r := run(t, p, tape, fuel)
		if ended && fuel >= long.Steps {
			if !sameResult(r, long) {
				t.Errorf("%s: with fuel %d %s; with fuel %d %s", printed(p), fuel, told(r), top, told(long))
			}
			continue
		}
		if (r.End != api.End{Kind: api.NoFuel}) || r.Steps != fuel {
			t.Errorf("%s with fuel %d: %s, but with fuel %d %s", printed(p), fuel, told(r), top, told(long))
		}
		if !trace.Prefix(r.Events, long.Events) || !trace.Prefix(before.Events, r.Events) || len(r.Events) > len(before.Events)+1 {
			t.Errorf("%s with fuel %d: %s; with fuel %d: %s", printed(p), fuel, told(r), top, told(long))
		}
		if !within(before, r) || !within(r, long) {
			t.Errorf("%s with fuel %d: %s; with one less: %s", printed(p), fuel, told(r), told(before))
		}
		before = r
	}
}

// within reports whether the greatest numbers of a are no greater than those of b.
func within(a, b api.Result) bool {
	return a.Depth <= b.Depth && a.Defers <= b.Defers && a.Panics <= b.Panics
}

func TestP6_2Examples(t *testing.T) {
	for _, x := range allExamples() {
		p := parse(t, x.whole())
		steps := run(t, p, x.tape, 400).Steps
		ladder(t, p, x.tape, steps+3)
		if r := run(t, p, x.tape, plenty); r.Steps < plenty && !sameResult(r, run(t, p, x.tape, api.MaxFuel)) {
			t.Errorf("%q: with the greatest fuel %s; with less %s", x.code, told(run(t, p, x.tape, api.MaxFuel)), told(r))
		}
	}
}

// TestP6_2Endless: programs that never end go on with what they do.
func TestP6_2Endless(t *testing.T) {
	for _, s := range []string{
		"jump 0",
		"a: const 1; out; jump a",
		"a: in; out; jump a",
		"call 0; ret",
		"const 3; out; call 0; ret",
		"defer 0; ret",
		"const 3; out; defer 0; ret",
		"a: defer 1; in; drop; jump a" + nothing,
		"a: call 1; jump a; " + head + "defer 2; const 5; panic" + catches,
		"defer 1; const 1; panic; " + head + "const 2; out; defer 1; const 2; panic",
		"defer 1; ret; " + head + "recover; out; out; defer 1; const 2; panic",
		"defer 1; const 1; panic; " + head + "recover; out; out; call 0; ret",
	} {
		p := parse(t, head+s)
		tape := []uint64{5, 6, 7}
		ladder(t, p, tape, 300)
		if r := run(t, p, tape, api.MaxFuel); r.End != (api.End{Kind: api.NoFuel}) || r.Steps != api.MaxFuel || !trace.Prefix(run(t, p, tape, 300).Events, r.Events) {
			t.Errorf("%q ends after %d steps: %v", s, r.Steps, r.End)
		}
	}
	if n := strings.Count(trace.Print(run(t, parse(t, head+"a: const 1; out; jump a"), nil, api.MaxFuel).Events, api.End{}), "out=1"); n != (api.MaxFuel+1)/3 {
		t.Errorf("%d numbers are told", n)
	}
}

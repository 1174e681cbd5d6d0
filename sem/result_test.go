package sem_test

import (
	"math"
	"slices"
	"strings"
	"testing"

	"windlass/api"
	"windlass/code"
	"windlass/kinds"
	"windlass/samples"
	"windlass/sem"
	"windlass/trace"
)

// fuels around the bounds, and far beyond them.
var fuels = []int{math.MinInt, -1, 0, 1, api.MaxFuel - 1, api.MaxFuel, api.MaxFuel + 1, math.MaxInt}

func isZero(r api.Result) bool {
	return len(r.Events) == 0 && r.End == api.End{} && numbersOf(r) == samples.Numbers{}
}

// TestP6_1Wrong: Run answers layer 5's error with each fuel, and nothing else.
func TestP6_1Wrong(t *testing.T) {
	for _, x := range samples.AllWrong() {
		for _, fuel := range fuels {
			if r, e := sem.Run(x.Program, []uint64{1}, fuel); e != x.Want || !isZero(r) {
				t.Errorf("%s with fuel %d: Run returns %s, %d; want nothing, %d", x.Name, fuel, told(r), int(e), int(x.Want))
			}
		}
		if _, e := kinds.Check(x.Program); e != x.Want {
			t.Errorf("%s: layer 5 says %d; want %d", x.Name, int(e), int(x.Want))
		}
	}
}

func TestP6_1ErrArg(t *testing.T) {
	for _, s := range []string{head + "jump 0", head + "const 7; out; ret", head + "const 1; panic"} {
		p := parse(t, s)
		for _, fuel := range fuels {
			want := api.OK
			if fuel < 0 || fuel > 1048576 {
				want = api.ErrArg
			}
			r, e := sem.Run(p, nil, fuel)
			if e != want || (e != api.OK && !isZero(r)) {
				t.Errorf("%s with fuel %d: Run returns %s, %d; want %d", s, fuel, told(r), int(e), int(want))
			}
		}
	}
}

func TestP6_1Fuel(t *testing.T) {
	for _, x := range []struct {
		s    string
		fuel int
		want string
	}{
		{"const 7; out; ret", 0, "fuel 0 1 0 0"},
		{"const 7; out; ret", 1, "fuel 1 1 0 0"},
		{"const 7; out; ret", 2, "out=7 fuel 2 1 0 0"},
		{"const 7; out; ret", 3, "out=7 exit=0 3 1 0 0"},
		{"const 7; out; ret", 4, "out=7 exit=0 3 1 0 0"},
		{"const 7; out; ret", api.MaxFuel, "out=7 exit=0 3 1 0 0"},
		{"const 7; exit", 1, "fuel 1 1 0 0"},
		{"const 7; exit", 2, "exit=7 2 1 0 0"},
		{"const 7; panic", 1, "fuel 1 1 0 0"},
		{"const 7; panic", 2, "panic=7 2 1 0 1"},
		{"defer 1; const 7; panic; " + head + "in; drop; ret", 3, "fuel 3 2 1 1"},
		{"defer 1; const 7; panic; " + head + "in; drop; ret", 5, "in=4 fuel 5 2 1 1"},
		{"defer 1; const 7; panic; " + head + "in; drop; ret", 6, "in=4 panic=7 6 2 1 1"},
		{"call 0; ret", 0, "fuel 0 1 0 0"},
		{"call 0; ret", 1, "fuel 1 2 0 0"},
		{"defer 0; ret", 2, "fuel 2 2 1 0"},
		{"jump 0", api.MaxFuel, "fuel 1048576 1 0 0"},
		{"call 0; ret", api.MaxFuel, "fuel 1048576 1048577 0 0"},
		{"defer 0; jump 0", api.MaxFuel, "fuel 1048576 1 524288 0"},
	} {
		if got := told(run(t, parse(t, head+x.s), []uint64{4}, x.fuel)); got != x.want {
			t.Errorf("%q with fuel %d: %s; want %s", x.s, x.fuel, got, x.want)
		}
	}
}

// TestP6_1Deep: a single step lets many frames end, or a panic through them.
func TestP6_1Deep(t *testing.T) {
	const n = 100000
	for _, x := range []struct{ s, want string }{
		{"in; call 1; ret; func 1 n 0 -; get 0; zero a; get 0; const 1; sub; call 1; a: ret", "in=100000 exit=0 700006 100002 0 0"},
		{"in; call 1; ret; func 1 n 0 -; get 0; zero a; get 0; const 1; sub; call 1; ret; a: const 9; panic", "in=100000 panic=9 600006 100002 0 1"},
		{"in; defer 1; ret; func 1 n 0 -; get 0; zero a; get 0; const 1; sub; defer 1; a: ret", "in=100000 exit=0 700006 100002 1 0"},
		{"in; defer 1; const 1; panic; func 1 n 0 -; get 0; zero a; get 0; const 1; sub; defer 1; a: get 0; panic", "in=100000 panic=0 800008 100002 1 100002"},
		{"in; call 2; const 8; out; ret; func 1 n 0 -; get 0; zero a; get 0; const 1; sub; call 1; ret; a: const 9; panic; func 1 n 0 -; defer 3; get 0; call 1; ret" + samples.Quiet, "in=100000 out=8 exit=0 600016 100003 1 1"},
		{"func 0 n 0 -; in; set 0; a: get 0; zero b; get 0; const 1; sub; set 0; defer 1; jump a; b: ret" + samples.Nothing, "in=100000 exit=0 900005 2 100000 0"},
		{"func 0 n 0 -; in; addr 0; call 1; get 0; out; ret; func 2 np 0 -; get 0; zero a; get 0; const 1; sub; get 1; call 1; ret; a: get 1; const 8; store; ret", "in=100000 out=8 exit=0 800012 100002 0 0"},
	} {
		p := parse(t, samples.Example{Code: x.s}.Whole())
		if got := told(run(t, p, []uint64{n}, api.MaxFuel)); got != x.want {
			t.Errorf("%q: %s; want %s", x.s, got, x.want)
		}
	}
}

// TestP6_1Arguments: nothing of them is changed, nor what lies behind them.
func TestP6_1Arguments(t *testing.T) {
	for _, x := range samples.All() {
		p := samples.Roomy(parse(t, x.Whole()))
		tape := samples.Room(x.Tape, 77)
		whole, wholeTape := samples.Wholly(p), slices.Clone(tape[:cap(tape)])
		first := run(t, p, tape, plenty)
		if !code.Same(whole, samples.Wholly(p)) || !slices.Equal(wholeTape, tape[:cap(tape)]) {
			t.Fatalf("%q: an argument is changed", x.Code)
		}
		events := slices.Clone(first.Events)
		second := run(t, p, tape, plenty)
		if !sameResult(first, second) {
			t.Errorf("%q: %s, and then %s", x.Code, told(first), told(second))
		}
		spoil(second.Events)
		for i := range tape[:cap(tape)] {
			tape[:cap(tape)][i] = 99
		}
		if !slices.Equal(first.Events, events) {
			t.Errorf("%q: two results share memory, or one the tape's", x.Code)
		}
	}
}

func spoil(events []api.Event) {
	events = events[:cap(events)]
	for i := range events {
		events[i] = api.Event{Kind: 99, Value: 99}
	}
}

// ladder holds P6.2: a run with each fuel up to top against the one with top.
func ladder(t testing.TB, p api.Program, tape []uint64, top int) {
	t.Helper()
	long := run(t, p, tape, top)
	ended := long.End.Kind == api.Exited || long.End.Kind == api.Uncaught
	if !ended && (long.End != api.End{Kind: api.NoFuel} || long.Steps != top) {
		t.Errorf("%s with fuel %d: %s", samples.Printed(p), top, told(long))
	}
	var before api.Result
	for fuel := range top {
		r := run(t, p, tape, fuel)
		if ended && fuel >= long.Steps {
			if !sameResult(r, long) {
				t.Errorf("%s: with fuel %d %s; with fuel %d %s", samples.Printed(p), fuel, told(r), top, told(long))
			}
			continue
		}
		if (r.End != api.End{Kind: api.NoFuel}) || r.Steps != fuel {
			t.Errorf("%s with fuel %d: %s, but with fuel %d %s", samples.Printed(p), fuel, told(r), top, told(long))
		}
		if !trace.Prefix(r.Events, long.Events) || !trace.Prefix(before.Events, r.Events) || len(r.Events) > len(before.Events)+1 {
			t.Errorf("%s with fuel %d: %s; with fuel %d: %s", samples.Printed(p), fuel, told(r), top, told(long))
		}
		if !within(before, r) || !within(r, long) {
			t.Errorf("%s with fuel %d: %s; with one less: %s", samples.Printed(p), fuel, told(r), told(before))
		}
		before = r
	}
}

// within reports whether the greatest numbers of a are no greater than those of b.
func within(a, b api.Result) bool {
	return a.Depth <= b.Depth && a.Defers <= b.Defers && a.Panics <= b.Panics
}

func TestP6_2Examples(t *testing.T) {
	for _, x := range samples.All() {
		p := parse(t, x.Whole())
		steps := run(t, p, x.Tape, 400).Steps
		ladder(t, p, x.Tape, steps+3)
		if r := run(t, p, x.Tape, plenty); r.Steps < plenty && !sameResult(r, run(t, p, x.Tape, api.MaxFuel)) {
			t.Errorf("%q: with the greatest fuel %s; with less %s", x.Code, told(run(t, p, x.Tape, api.MaxFuel)), told(r))
		}
	}
}

// TestP6_2Endless: programs that never end go on with what they do.
func TestP6_2Endless(t *testing.T) {
	for _, s := range samples.Endless() {
		p := parse(t, s)
		tape := []uint64{5, 6, 7}
		ladder(t, p, tape, 300)
		if r := run(t, p, tape, api.MaxFuel); r.End != (api.End{Kind: api.NoFuel}) || r.Steps != api.MaxFuel || !trace.Prefix(run(t, p, tape, 300).Events, r.Events) {
			t.Errorf("%q ends after %d steps: %v", s, r.Steps, r.End)
		}
	}
	if n := strings.Count(trace.Print(run(t, parse(t, head+"a: const 1; out; jump a"), nil, api.MaxFuel).Events, api.End{}), "out=1"); n != (api.MaxFuel+1)/3 {
		t.Errorf("%d numbers are told", n)
	}
}

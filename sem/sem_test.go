package sem_test

import (
	"math"
	"slices"
	"strconv"
	"testing"

	"windlass/api"
	"windlass/samples"
	"windlass/sem"
	"windlass/trace"
	"windlass/word"
)

// What the texts of this package's tests have most often.
const (
	head   = samples.Heading
	plenty = samples.Plenty
)

// parse a text as samples has them.
func parse(t testing.TB, s string) api.Program {
	t.Helper()
	p, ok := samples.Program(s)
	if !ok {
		t.Fatalf("%q is no program", s)
	}
	return p
}

func run(t testing.TB, p api.Program, tape []uint64, fuel int) api.Result {
	t.Helper()
	r, e := sem.Run(p, tape, fuel)
	if e != api.OK {
		t.Fatalf("Run returns %d for %s with fuel %d", int(e), samples.Printed(p), fuel)
	}
	return r
}

func sameResult(a, b api.Result) bool {
	return slices.Equal(a.Events, b.Events) && a.End == b.End && numbersOf(a) == numbersOf(b)
}

func numbersOf(r api.Result) samples.Numbers {
	return samples.Numbers{Steps: r.Steps, Depth: r.Depth, Defers: r.Defers, Panics: r.Panics}
}

func told(r api.Result) string {
	n := numbersOf(r)
	s := trace.Print(r.Events, r.End)
	for _, v := range []int{n.Steps, n.Depth, n.Defers, n.Panics} {
		s += " " + strconv.Itoa(v)
	}
	return s
}

// check holds examples against Run, and the second reading against Run.
func check(t *testing.T, list []samples.Example) {
	t.Helper()
	for _, x := range list {
		p := parse(t, x.Whole())
		r := run(t, p, x.Tape, plenty)
		if got := trace.Print(r.Events, r.End); got != x.Want {
			t.Errorf("%q: %s; want %s", x.Code, got, x.Want)
		}
		if got := numbersOf(r); x.Numbers != (samples.Numbers{}) && got != x.Numbers {
			t.Errorf("%q: steps and greatest numbers are %v; want %v", x.Code, got, x.Numbers)
		}
		if s := reading(p, x.Tape, plenty); !sameResult(r, s) {
			t.Errorf("%q: Run says %s; the second reading says %s", x.Code, told(r), told(s))
		}
	}
}

func TestP6_1Examples(t *testing.T)        { check(t, samples.Chapter()) }
func TestP6_1Operations(t *testing.T)      { check(t, samples.Operations()) }
func TestP6_1Pointers(t *testing.T)        { check(t, samples.Pointers()) }
func TestP6_1Tape(t *testing.T)            { check(t, samples.Tapes()) }
func TestP6_1Stacks(t *testing.T)          { check(t, samples.Stacks()) }
func TestP6_1Jumps(t *testing.T)           { check(t, samples.Jumps()) }
func TestP6_1Parameters(t *testing.T)      { check(t, samples.Parameters()) }
func TestP6_1Defers(t *testing.T)          { check(t, samples.Defers()) }
func TestP6_1Ends(t *testing.T)            { check(t, samples.Ends()) }
func TestP6_1Panics(t *testing.T)          { check(t, samples.Panics()) }
func TestP6_1Recover(t *testing.T)         { check(t, samples.Recovers()) }
func TestP6_1Kept(t *testing.T)            { check(t, samples.Kept()) }
func TestP6_1ListOfPanics(t *testing.T)    { check(t, samples.Lists()) }
func TestP6_1GreatestNumbers(t *testing.T) { check(t, samples.Greatest()) }

// words at which the operations change what they do.
var words = []uint64{0, 1, 2, 3, 7, 8, 62, 63, 64, 65, 1<<63 - 1, 1 << 63, 1<<63 + 1, math.MaxUint64 - 1, math.MaxUint64}

func TestP6_1Reckoning(t *testing.T) {
	names := []string{"add", "sub", "mul", "div", "rem", "and", "or", "xor", "shl", "shr", "sar", "eq", "lt", "below"}
	for n, name := range names {
		op := api.Add + api.Op(n)
		p := parse(t, head+"in; in; "+name+"; out; ret")
		for _, a := range words {
			for _, b := range words {
				r := run(t, p, []uint64{a, b}, plenty)
				want := []api.Event{{Kind: api.Asked, Value: a}, {Kind: api.Asked, Value: b}}
				end := api.End{Kind: api.Exited}
				if v, e := word.Do(op, a, b); e == api.OK {
					want = append(want, api.Event{Kind: api.Wrote, Value: v})
				} else {
					end = api.End{Kind: api.Uncaught, Value: api.ByZero}
				}
				if !slices.Equal(r.Events, want) || r.End != end {
					t.Errorf("%s of %d and %d: %v %v; want %v %v", name, a, b, r.Events, r.End, want, end)
				}
				if by0 := b == 0 && (op == api.Div || op == api.Rem); by0 != (end.Kind == api.Uncaught) {
					t.Errorf("%s of %d and %d: a panic: %v", name, a, b, end)
				}
			}
		}
	}
}

package build_test

import (
	"testing"

	"windlass/api"
	"windlass/code"
	"windlass/kinds"
	"windlass/samples"
	"windlass/trace"
)

// TestP9_2EveryShortProgram: what makes frames, ends them, or asks about a panic.
func TestP9_2EveryShortProgram(t *testing.T) {
	seen := samples.Tally{}
	for p := range samples.Short() {
		seen.Count(ends(t, p, built(t, p), nil, samples.Plenty))
	}
	if few := seen.Few(400); len(few) > 0 {
		t.Errorf("too few: %v", few)
	}
}

func TestP9_2ManyPrograms(t *testing.T) {
	m := samples.New(92)
	seen := samples.Tally{}
	for range 20000 {
		p, tape := m.Program(), m.Tape()
		g := built(t, p)
		long := ends(t, p, g, tape, 3000)
		seen.Count(long)
		follows(t, p, g, tape, m.Roll(100), long)
	}
	if few := seen.Few(400, "no fuel", "by zero", "by null"); len(few) > 0 {
		t.Errorf("too few: %v", few)
	}
}

func TestP9_2AllFuels(t *testing.T) {
	m := samples.New(93)
	seen := samples.Tally{}
	for range 2000 {
		p, tape := m.Program(), m.Tape()
		top := 200
		if !trace.Ended(meaning(t, p, tape, samples.Plenty).End) {
			top = 20
		}
		seen.Count(behaves(t, p, tape, top))
	}
	if few := seen.Few(30, "no fuel", "by zero", "by null"); len(few) > 0 {
		t.Errorf("too few: %v", few)
	}
}

// tryAny holds Build against layer 5, and its graphs against the meaning, for
// any program.
func tryAny(t testing.TB, p api.Program, tape []uint64, fuel int) api.Errno {
	t.Helper()
	_, want := kinds.Check(p)
	if want != api.OK {
		checkNo(t, samples.Printed(p), p, want)
		return want
	}
	g := built(t, p)
	long := ends(t, p, g, tape, fuel)
	follows(t, p, g, tape, fuel%100, long)
	return want
}

// TestP9_1ManyBrokenPrograms: Build answers what layer 5 does, or graphs.
func TestP9_1ManyBrokenPrograms(t *testing.T) {
	m := samples.New(91)
	seen := map[api.Errno]int{}
	for range 20000 {
		seen[tryAny(t, m.Broken(), m.Tape(), m.Roll(1000))]++
	}
	if seen[api.OK] < 100 || seen[api.ErrForm] < 100 || seen[api.ErrKind] < 100 {
		t.Errorf("too few: %v", seen)
	}
}

func FuzzBuild(f *testing.F) {
	for _, x := range samples.All() {
		b, _ := code.Encode(parse(f, x.Whole()))
		f.Add(b, uint64(5), 100)
	}
	m := samples.New(94)
	for range 100 {
		b, _ := code.Encode(m.Program())
		f.Add(b, m.Word(), 300)
	}
	f.Fuzz(func(t *testing.T, b []byte, number uint64, fuel int) {
		p, e := code.Decode(b)
		if e != api.OK || fuel < 0 || fuel > 3000 {
			return
		}
		tryAny(t, p, []uint64{number, 1}, fuel)
	})
}

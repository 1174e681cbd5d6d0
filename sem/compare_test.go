package sem_test

import (
	"testing"

	"windlass/api"
	"windlass/code"
	"windlass/kinds"
	"windlass/samples"
	"windlass/sem"
)

func same(t testing.TB, p api.Program, tape []uint64, fuel int) api.Result {
	t.Helper()
	r := run(t, p, tape, fuel)
	if s := reading(p, tape, fuel); !sameResult(r, s) {
		t.Fatalf("%s with %v and fuel %d: Run says %s; the second reading says %s", samples.Printed(p), tape, fuel, told(r), told(s))
	}
	return r
}

// TestP6_1EveryShortProgram: four functions, each of which does up to two
// things that make frames, end them, or ask about a panic.
func TestP6_1EveryShortProgram(t *testing.T) {
	seen := samples.Tally{}
	for p := range samples.Short() {
		seen.Count(same(t, p, nil, plenty))
	}
	if few := seen.Few(400); len(few) > 0 {
		t.Errorf("too few: %v", few)
	}
}

func TestP6_1ManyPrograms(t *testing.T) {
	m := samples.New(6)
	seen := samples.Tally{}
	for range 40000 {
		p := m.Program()
		if _, e := kinds.Check(p); e != api.OK {
			t.Fatalf("layer 5 says %d of %s", int(e), samples.Printed(p))
		}
		seen.Count(same(t, p, m.Tape(), m.Roll(600)))
	}
	if few := seen.Few(400, "no fuel"); len(few) > 0 {
		t.Errorf("too few: %v", few)
	}
}

func TestP6_2ManyPrograms(t *testing.T) {
	m := samples.New(62)
	for range 1000 {
		p, tape := m.Program(), m.Tape()
		ladder(t, p, tape, min(run(t, p, tape, 200).Steps+3, 200))
	}
}

// TestP6_1ManyBrokenPrograms: Run answers what layer 5 does, or a run.
func TestP6_1ManyBrokenPrograms(t *testing.T) {
	m := samples.New(61)
	seen := map[api.Errno]int{}
	for range 20000 {
		tryAny(t, m.Broken(), m.Tape(), m.Roll(100), seen)
	}
	if seen[api.OK] < 100 || seen[api.ErrForm] < 100 || seen[api.ErrKind] < 100 {
		t.Errorf("too few: %v", seen)
	}
}

// tryAny holds Run against layer 5 and the second reading, for any program.
func tryAny(t testing.TB, p api.Program, tape []uint64, fuel int, seen map[api.Errno]int) {
	t.Helper()
	_, want := kinds.Check(p)
	seen[want]++
	if want == api.OK {
		same(t, p, tape, fuel)
		return
	}
	if r, e := sem.Run(p, tape, fuel); e != want || !isZero(r) {
		t.Errorf("%s: Run returns %s, %d; want nothing, %d", samples.Printed(p), told(r), int(e), int(want))
	}
}

func FuzzRun(f *testing.F) {
	for _, x := range samples.All() {
		b, _ := code.Encode(parse(f, x.Whole()))
		f.Add(b, uint64(5), 100)
	}
	m := samples.New(63)
	for range 100 {
		b, _ := code.Encode(m.Program())
		f.Add(b, m.Word(), 300)
	}
	f.Fuzz(func(t *testing.T, b []byte, number uint64, fuel int) {
		p, e := code.Decode(b)
		if e != api.OK || fuel < 0 || fuel > 3000 {
			return
		}
		tryAny(t, p, []uint64{number, 1}, fuel, map[api.Errno]int{})
	})
}

package bits_test

import (
	"math/rand"
	"slices"
	"testing"

	"windlass/bits"
)

// Small sets, reckoned by hand: s for sizes[0] numbers, t for sizes[1].
func TestP10_2ByHand(t *testing.T) {
	for _, c := range []struct {
		name      string
		n, m      int
		s, t      []int
		or        []int
		orNew     bool
		minus     []int
		minusGone bool
	}{
		{"both empty", 70, 70, nil, nil, nil, false, nil, false},
		{"of an empty one", 70, 70, []int{1, 69}, nil, []int{1, 69}, false, []int{1, 69}, false},
		{"to an empty one", 70, 70, nil, []int{1, 69}, []int{1, 69}, true, nil, false},
		{"equal", 70, 70, []int{1, 69}, []int{1, 69}, []int{1, 69}, false, nil, true},
		{"nothing in common", 70, 70, []int{0, 64}, []int{1, 65}, []int{0, 1, 64, 65}, true, []int{0, 64}, false},
		{"some in common", 70, 70, []int{0, 1, 64}, []int{1, 64, 65}, []int{0, 1, 64, 65}, true, []int{0}, true},
		{"a part", 70, 70, []int{0, 1, 64}, []int{1}, []int{0, 1, 64}, false, []int{0, 64}, true},
		{"the whole", 70, 70, []int{1}, []int{0, 1, 64}, []int{0, 1, 64}, true, nil, true},
		{"first word changes alone", 200, 200, []int{150}, []int{3, 150}, []int{3, 150}, true, nil, true},
		{"first word removed alone", 200, 200, []int{3, 150}, []int{3, 151}, []int{3, 150, 151}, true, []int{150}, true},
		{"from a greater one", 10, 70, []int{2}, []int{2, 3, 69}, []int{2, 3}, true, nil, true},
		{"from a smaller one", 70, 10, []int{2, 69}, []int{2, 3}, []int{2, 3, 69}, true, []int{69}, true},
		{"beyond, in the same word", 70, 128, []int{69}, []int{70, 71, 127}, []int{69}, false, []int{69}, false},
		{"beyond, in another word", 70, 200, []int{69}, []int{128, 199}, []int{69}, false, []int{69}, false},
		{"beyond, a whole word", 64, 200, []int{63}, []int{64, 65, 127, 128, 191, 192}, []int{63}, false, []int{63}, false},
		{"at the bound", 70, 200, nil, []int{69, 70}, []int{69}, true, nil, false},
		{"at the bound of a word", 64, 200, nil, []int{63, 64}, []int{63}, true, nil, false},
		{"for no numbers", 0, 70, nil, []int{0, 1, 69}, nil, false, nil, false},
		{"for less than none", -7, 70, nil, []int{0, 1, 69}, nil, false, nil, false},
		{"from one for no numbers", 70, 0, []int{0, 69}, nil, []int{0, 69}, false, []int{0, 69}, false},
		{"for one number", 1, 64, nil, []int{0, 1, 63}, []int{0}, true, nil, false},
		{"the greatest", greatest, greatest + 9, []int{0}, []int{0, greatest - 1}, []int{0, greatest - 1}, true, nil, true},
		{"from the greatest", 70, greatest, []int{0}, []int{greatest - 1}, []int{0}, false, []int{0}, false},
	} {
		t.Run(c.name, func(t *testing.T) {
			s, _ := setOf(t, c.n, c.s...)
			u, _ := setOf(t, c.m, c.t...)
			if got := s.Or(u); got != c.orNew {
				t.Errorf("Or = %v", got)
			}
			holds(t, s, c.or...)
			holds(t, u, c.t...)
			if s.Or(u) {
				t.Error("Or is true a second time")
			}
			s, _ = setOf(t, c.n, c.s...)
			if got := s.Minus(u); got != c.minusGone {
				t.Errorf("Minus = %v", got)
			}
			holds(t, s, c.minus...)
			holds(t, u, c.t...)
			if s.Minus(u) {
				t.Error("Minus is true a second time")
			}
		})
	}
}

// sizes around words, few enough that all pairs of them can be had.
func sizes() []int {
	return []int{-1, 0, 1, 2, 62, 63, 64, 65, 66, 70, 126, 127, 128, 129, 150, 192, 200}
}

// fillings of a set for n numbers.
func fillings(r *rand.Rand, n int) [][]int {
	if n < 1 {
		return [][]int{nil}
	}
	return [][]int{nil, numbers(0, n), {0}, {n - 1}, some(r, n), some(r, n)}
}

// Every pair of sizes, both ways round.
func TestP10_2Sizes(t *testing.T) {
	r := rand.New(rand.NewSource(103))
	changed := [2][2]int{}
	for _, n := range sizes() {
		for _, m := range sizes() {
			for _, x := range fillings(r, n) {
				for _, y := range fillings(r, m) {
					changed[0][number(orMatches(t, n, m, x, y))]++
					changed[1][number(minusMatches(t, n, m, x, y))]++
				}
			}
		}
	}
	for _, c := range changed {
		if c[0] < 500 || c[1] < 500 {
			t.Errorf("too few of one kind: %v", changed)
		}
	}
}

func number(holds bool) int {
	if holds {
		return 1
	}
	return 0
}

func orMatches(t *testing.T, n, m int, x, y []int) bool {
	t.Helper()
	s, p := setOf(t, n, x...)
	u, q := setOf(t, m, y...)
	got, want := s.Or(u), p.or(q)
	if got != want {
		t.Fatalf("sizes %d, %d: %v.Or(%v) = %v", n, m, x, y, got)
	}
	same(t, s, p)
	same(t, u, q)
	stillContains(t, s, p)
	return got
}

func minusMatches(t *testing.T, n, m int, x, y []int) bool {
	t.Helper()
	s, p := setOf(t, n, x...)
	u, q := setOf(t, m, y...)
	got, want := s.Minus(u), p.minus(q)
	if got != want {
		t.Fatalf("sizes %d, %d: %v.Minus(%v) = %v", n, m, x, y, got)
	}
	same(t, s, p)
	same(t, u, q)
	stillContains(t, s, p)
	return got
}

// stillContains checks that a set has kept its size; it is changed by that.
func stillContains(t *testing.T, s *bits.Set, p *plain) {
	t.Helper()
	for _, i := range []int{-1, 0, p.n - 1, p.n, p.n + 1, p.n + 64} {
		if got, want := s.Add(i), p.add(i); got != want {
			t.Fatalf("a set for %d numbers: Add(%d) = %v", p.n, i, got)
		}
	}
	same(t, s, p)
}

// A set with itself.
func TestP10_2Itself(t *testing.T) {
	r := rand.New(rand.NewSource(104))
	for _, n := range append(sizes(), greatest) {
		for _, x := range fillings(r, min(n, 300)) {
			s, p := setOf(t, n, x...)
			if s.Or(s) {
				t.Fatalf("Or of itself, %v, is true", x)
			}
			same(t, s, p)
			if !bits.Same(s, s) {
				t.Fatalf("%v is not the same as itself", x)
			}
			if s.Minus(s) != (len(p.list) > 0) {
				t.Fatalf("Minus of itself, %v, is wrong", x)
			}
			holds(t, s)
			if s.Minus(s) {
				t.Fatal("Minus of an empty one, of itself, is true")
			}
			p.list = nil
			stillContains(t, s, p)
		}
	}
}

// An element beyond what the set can contain does not come back later.
func TestP10_2BeyondIsForgotten(t *testing.T) {
	for _, n := range sizes() {
		s, p := setOf(t, n)
		full, _ := setOf(t, 256, numbers(0, 256)...)
		s.Or(full)
		holds(t, s, numbers(0, n)...)
		again, _ := setOf(t, 256)
		if again.Or(s) != (p.n > 0) {
			t.Fatalf("a set for %d numbers: Or into another one is wrong", n)
		}
		holds(t, again, numbers(0, n)...)
		if full.Minus(s) != (p.n > 0) {
			t.Fatalf("a set for %d numbers: Minus from another one is wrong", n)
		}
		holds(t, full, numbers(p.n, 256)...)
		if !bits.Same(s, again) {
			t.Fatalf("a set for %d numbers is not the same as another one", n)
		}
	}
}

// Or and Minus keep nothing of the other set.
func TestP10_2NothingIsKept(t *testing.T) {
	s, u := bits.New(130), bits.New(130)
	u.Add(7)
	s.Or(u)
	u.Add(8)
	u.Del(7)
	holds(t, s, 7)
	s.Add(129)
	holds(t, u, 8)
	s.Add(8)
	s.Minus(u)
	u.Add(7)
	holds(t, s, 7, 129)
	s.Del(7)
	holds(t, u, 7, 8)
}

func TestP10_2Copy(t *testing.T) {
	r := rand.New(rand.NewSource(105))
	for _, n := range append(sizes(), greatest-1, greatest, greatest+1) {
		for _, x := range fillings(r, min(n, 300)) {
			s, p := setOf(t, n, x...)
			c, q := s.Copy(), p.copy()
			if c == nil || c == s {
				t.Fatal("the copy is nil, or the set itself")
			}
			same(t, c, q)
			if !bits.Same(s, c) {
				t.Fatalf("the copy of %v is not the same", x)
			}
			changes(t, r, s, p, c, q)
			changes(t, r, c, q, s, p)
		}
	}
}

// changes one set, and checks that another one stays as it was.
func changes(t *testing.T, r *rand.Rand, s *bits.Set, p *plain, u *bits.Set, q *plain) {
	t.Helper()
	for range 30 {
		i := r.Intn(min(p.n, 300) + 3)
		if got, want := s.Add(i), p.add(i); got != want {
			t.Fatalf("Add(%d) = %v", i, got)
		}
		i = r.Intn(min(p.n, 300) + 3)
		if got, want := s.Del(i), p.del(i); got != want {
			t.Fatalf("Del(%d) = %v", i, got)
		}
	}
	same(t, u, q)
	other, o := setOf(t, p.n, 0, p.n/2, p.n-1)
	if s.Or(other) != p.or(o) {
		t.Fatal("Or is wrong")
	}
	same(t, u, q)
	if s.Minus(other) != p.minus(o) {
		t.Fatal("Minus is wrong")
	}
	same(t, u, q)
	stillContains(t, s, p)
	same(t, u, q)
}

func TestP10_2CopyOfEachSize(t *testing.T) {
	for n := -2; n < 200; n++ {
		contains(t, bits.New(n).Copy(), max(n, 0))
	}
	contains(t, bits.New(greatest-1).Copy(), greatest-1)
	contains(t, bits.New(greatest).Copy().Copy(), greatest)
	contains(t, bits.New(greatest+1).Copy(), greatest)
}

// What they can contain is ignored.
func TestP10_2Same(t *testing.T) {
	all := append(sizes(), greatest)
	for _, n := range all {
		for _, m := range all {
			s, _ := setOf(t, n)
			u, _ := setOf(t, m)
			if !bits.Same(s, u) {
				t.Fatalf("empty ones of %d and %d are not the same", n, m)
			}
			least := min(n, m)
			if least < 1 {
				continue
			}
			s.Add(least - 1)
			if bits.Same(s, u) || bits.Same(u, s) {
				t.Fatalf("%d and %d: they are the same, but for %d", n, m, least-1)
			}
			u.Add(least - 1)
			if !bits.Same(s, u) || !bits.Same(u, s) {
				t.Fatalf("%d and %d: they are not the same, with %d", n, m, least-1)
			}
		}
	}
}

// One element makes the difference, at each place.
func TestP10_2OneDifference(t *testing.T) {
	for _, n := range []int{192, 193, 260, greatest} {
		for i := range 192 {
			s, _ := setOf(t, 192, 0, 64, 100, 191)
			u, _ := setOf(t, n, 0, 64, 100, 191)
			if !bits.Same(s, u) || !bits.Same(u, s) {
				t.Fatal("they are not the same")
			}
			if !u.Add(i) {
				u.Del(i)
			}
			if bits.Same(s, u) || bits.Same(u, s) {
				t.Fatalf("they are the same, but for %d", i)
			}
		}
	}
}

// An element that one of them cannot contain makes a difference.
func TestP10_2DifferenceBeyond(t *testing.T) {
	for _, n := range []int{-1, 0, 1, 63, 64, 65, 128} {
		for _, i := range []int{max(n, 0), max(n, 0) + 1, 127, 128, 191, 255, greatest - 1} {
			if i < n {
				continue
			}
			s, _ := setOf(t, n, 0)
			u, _ := setOf(t, greatest, s.List()...)
			if !bits.Same(s, u) || !bits.Same(u, s) {
				t.Fatal("they are not the same")
			}
			u.Add(i)
			if bits.Same(s, u) || bits.Same(u, s) {
				t.Fatalf("for %d numbers: they are the same, but for %d", n, i)
			}
		}
	}
}

// Same holds of two made-up sets exactly if their lists are equal.
func TestP10_2SameMadeUp(t *testing.T) {
	r := rand.New(rand.NewSource(106))
	seen := [2]int{}
	for range 20000 {
		n, m := r.Intn(200), r.Intn(200)
		var x, y []int
		for range r.Intn(3) {
			x, y = append(x, 63*r.Intn(3)), append(y, 63*r.Intn(3))
		}
		s, p := setOf(t, n, x...)
		u, q := setOf(t, m, y...)
		want := slices.Equal(p.list, q.list)
		if bits.Same(s, u) != want || bits.Same(u, s) != want {
			t.Fatalf("Same(%v, %v) is not %v", p.list, q.list, want)
		}
		same(t, s, p)
		same(t, u, q)
		seen[number(want)]++
	}
	if seen[0] < 1000 || seen[1] < 1000 {
		t.Errorf("too few of one kind: %v", seen)
	}
}

// A nil Set, in each place.
func TestP10_2Nil(t *testing.T) {
	var none *bits.Set
	for _, i := range []int{-1 << 63, -1, 0, 1, 63, 64, greatest, 1<<63 - 1} {
		if none.Add(i) || none.Del(i) || none.Has(i) {
			t.Errorf("a nil Set: %d", i)
		}
	}
	if none.Len() != 0 || len(none.List()) != 0 || none.Copy() != nil {
		t.Error("a nil Set is not empty, or its copy is not nil")
	}
	if none.Or(none) || none.Or(nil) || none.Minus(none) || none.Minus(nil) {
		t.Error("a nil Set is changed by itself")
	}
	if !bits.Same(nil, nil) || !bits.Same(none, none) {
		t.Error("nil Sets are not the same")
	}
}

func TestP10_2NilAndOthers(t *testing.T) {
	var none *bits.Set
	for _, n := range append(sizes(), greatest) {
		s, p := setOf(t, n)
		if !bits.Same(s, none) || !bits.Same(none, s) {
			t.Errorf("a nil Set and an empty one for %d numbers are not the same", n)
		}
		if s.Or(none) || s.Minus(none) || none.Or(s) || none.Minus(s) {
			t.Errorf("an empty set for %d numbers: something changes", n)
		}
		stillContains(t, s, p)
		if s.Or(none) || s.Minus(none) || none.Or(s) || none.Minus(s) {
			t.Errorf("a set for %d numbers: something changes", n)
		}
		same(t, s, p)
		if want := len(p.list) == 0; bits.Same(s, none) != want || bits.Same(none, s) != want {
			t.Errorf("Same of a nil Set and %v is not %v", p.list, want)
		}
	}
	if none.Len() != 0 || len(none.List()) != 0 {
		t.Error("a nil Set has elements")
	}
}

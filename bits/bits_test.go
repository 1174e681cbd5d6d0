package bits_test

import (
	"math"
	"math/rand"
	"slices"
	"testing"

	"windlass/bits"
)

const greatest = 1048576 // no set contains a number from here on

// The chapter's example.
func TestP10_1Example(t *testing.T) {
	s := bits.New(70)
	if !s.Add(69) || s.Add(69) || s.Add(70) {
		t.Error("Add(69), Add(69), Add(70) are not true, false, false")
	}
	holds(t, s, 69)
}

// contains checks that an empty set can contain the numbers from 0 to n - 1, at
// both bounds; the set is empty again after it.
func contains(t *testing.T, s *bits.Set, n int) {
	t.Helper()
	if s == nil {
		t.Fatal("the set is nil")
	}
	if s.Len() != 0 || len(s.List()) != 0 {
		t.Fatalf("it is not empty: %d, %v", s.Len(), s.List())
	}
	for _, i := range []int{
		math.MinInt, math.MinInt + 1, math.MinInt32, -greatest, -n - 1, -n, -65, -64, -63, -1, 0, n - 1,
		n, n + 1, n + 62, n + 63, n + 64, greatest, greatest + 1, 1 << 31, 1 << 32, 1<<32 + 1, math.MaxInt - 1, math.MaxInt,
	} {
		inside := i >= 0 && i < n
		if s.Has(i) || s.Del(i) || s.Add(i) != inside || s.Has(i) != inside || s.Add(i) || s.Del(i) != inside || s.Has(i) || s.Del(i) {
			t.Fatalf("a set for %d numbers: %d is not as it should be", n, i)
		}
	}
	if s.Len() != 0 {
		t.Fatalf("Len() = %d in the end", s.Len())
	}
}

func TestP10_1Sizes(t *testing.T) {
	for _, c := range []struct{ n, want int }{
		{math.MinInt, 0}, {math.MinInt + 1, 0}, {math.MinInt32, 0}, {-greatest, 0}, {-65, 0}, {-64, 0}, {-63, 0}, {-2, 0}, {-1, 0},
		{0, 0}, {1, 1}, {2, 2}, {62, 62},
		{greatest - 1, greatest - 1}, {greatest, greatest}, {greatest + 1, greatest}, {greatest + 64, greatest}, {2 * greatest, greatest},
		{math.MaxInt32, greatest}, {1 << 32, greatest}, {1<<32 + 1, greatest}, {math.MaxInt - 63, greatest}, {math.MaxInt - 1, greatest}, {math.MaxInt, greatest},
	} {
		contains(t, bits.New(c.n), c.want)
	}
}

func TestP10_1SizesAroundEachWord(t *testing.T) {
	for n := 64; n <= greatest; n += 64 {
		contains(t, bits.New(n-1), n-1)
		contains(t, bits.New(n), n)
		contains(t, bits.New(n+1), min(n+1, greatest))
	}
}

// All numbers, of all small sizes.
func TestP10_1AllNumbers(t *testing.T) {
	for n := -3; n < 200; n++ {
		s := bits.New(n)
		for i := -70; i < n+140; i++ {
			if got, want := s.Add(i), i >= 0 && i < n; got != want {
				t.Fatalf("New(%d): Add(%d) = %v; want %v", n, i, got, want)
			}
		}
		holds(t, s, numbers(0, n)...)
		for i := -70; i < n+140; i++ {
			if got, want := s.Has(i), i >= 0 && i < n; got != want {
				t.Fatalf("New(%d): Has(%d) = %v; want %v", n, i, got, want)
			}
			if got, want := s.Del(i), i >= 0 && i < n; got != want {
				t.Fatalf("New(%d): Del(%d) = %v; want %v", n, i, got, want)
			}
		}
		holds(t, s)
	}
}

func TestP10_1Greatest(t *testing.T) {
	s := bits.New(math.MaxInt)
	for i := range greatest {
		if !s.Add(i) {
			t.Fatalf("Add(%d) is false", i)
		}
	}
	if s.Len() != greatest || !slices.Equal(s.List(), numbers(0, greatest)) {
		t.Error("it is not full")
	}
	for i := 0; i < greatest; i += 2 {
		if !s.Del(i) {
			t.Fatalf("Del(%d) is false", i)
		}
	}
	list := s.List()
	if s.Len() != greatest/2 || len(list) != greatest/2 {
		t.Fatalf("%d and %d elements; want half of them", s.Len(), len(list))
	}
	for k, i := range list {
		if i != 2*k+1 {
			t.Fatalf("element %d is %d", k, i)
		}
	}
}

// One number, at each place of a word; and all numbers but that one.
func TestP10_1EachPlace(t *testing.T) {
	for _, n := range []int{192, 200, greatest} {
		for i := range 192 {
			s, _ := setOf(t, n, i)
			holds(t, s, i)
		}
	}
	for i := range 192 {
		rest := slices.Delete(numbers(0, 192), i, i+1)
		s, _ := setOf(t, 192, rest...)
		holds(t, s, rest...)
		if !s.Add(i) || s.Len() != 192 {
			t.Fatalf("Add(%d) does not fill the set", i)
		}
		if !s.Del(i) {
			t.Fatalf("Del(%d) = false", i)
		}
		holds(t, s, rest...)
	}
}

// some numbers below n.
func some(r *rand.Rand, n int) []int {
	var list []int
	for range r.Intn(2 * n) {
		list = append(list, r.Intn(n))
	}
	return list
}

// Add and Del of every number: the first time, the second time, and nothing else
// changes.
func TestP10_1FirstAndSecondTime(t *testing.T) {
	r := rand.New(rand.NewSource(101))
	for _, n := range []int{1, 63, 64, 65, 127, 128, 129, 150} {
		for _, start := range [][]int{nil, numbers(0, n), some(r, n), some(r, n)} {
			s, p := setOf(t, n, start...)
			for i := -2; i < n+70; i++ {
				inside, was := i >= 0 && i < n, p.has(i)
				if s.Has(i) != was {
					t.Fatalf("Has(%d) is not %v", i, was)
				}
				if s.Add(i) != (inside && !was) || s.Add(i) {
					t.Fatalf("Add(%d), %v, is wrong", i, was)
				}
				p.add(i)
				same(t, s, p)
				if s.Has(i) != inside {
					t.Fatalf("Has(%d) is not %v after Add", i, inside)
				}
				if s.Del(i) != inside || s.Del(i) || s.Has(i) {
					t.Fatalf("Del(%d) is wrong", i)
				}
				p.del(i)
				same(t, s, p)
				if was {
					s.Add(i)
					p.add(i)
				}
			}
		}
	}
}

// What is outside changes nothing, however full the set is.
func TestP10_1Outside(t *testing.T) {
	for _, n := range []int{-5, 0, 1, 63, 64, 65, 70, 128} {
		for _, start := range [][]int{nil, {0}, numbers(0, n)} {
			s, p := setOf(t, n, start...)
			for _, i := range []int{math.MinInt, math.MinInt + 63, math.MinInt32, -129, -128, -65, -64, -63, -2, -1,
				max(n, 0), max(n, 0) + 1, max(n, 0) + 63, 200, greatest - 1, greatest, greatest + 1, 1 << 32, 1<<32 + 1, math.MaxInt - 63, math.MaxInt - 1, math.MaxInt} {
				if s.Has(i) || s.Add(i) || s.Has(i) || s.Del(i) || s.Has(i) {
					t.Fatalf("New(%d): %d is not outside", n, i)
				}
				same(t, s, p)
			}
		}
	}
}

func TestP10_1MadeUp(t *testing.T) {
	r := rand.New(rand.NewSource(102))
	for range 2000 {
		n := 1 + r.Intn(300)
		list := some(r, n)
		s, _ := setOf(t, n, list...)
		slices.Sort(list)
		holds(t, s, slices.Compact(list)...)
	}
	for range 50 {
		var list []int
		for range 20 {
			list = append(list, r.Intn(greatest))
		}
		s, _ := setOf(t, greatest, list...)
		slices.Sort(list)
		holds(t, s, slices.Compact(list)...)
	}
}

// Lists and sets are memory of their own.
func TestP10_1Memory(t *testing.T) {
	s, p := setOf(t, 130, 0, 63, 64, 129)
	a, b := s.List(), s.List()
	for i := range a[:cap(a)] {
		a[:cap(a)][i] = 77
	}
	if !slices.Equal(b, p.list) {
		t.Error("two lists share memory")
	}
	same(t, s, p)
	s.Add(1)
	if !slices.Equal(b, p.list) {
		t.Error("a later Add changes the list")
	}
	other := bits.New(130)
	holds(t, other)
	other.Add(5)
	holds(t, s, 0, 1, 63, 64, 129)
	holds(t, other, 5)
}

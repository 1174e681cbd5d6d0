package bits_test

import (
	"slices"
	"testing"

	"windlass/bits"
)

// plain is a set as a list of numbers, ascending; nil is a nil Set.
type plain struct {
	n    int
	list []int
}

// newPlain goes by the chapter's words: no numbers if n is less than 1, from 0
// to 2^20 - 1 if it is greater than 2^20.
func newPlain(n int) *plain {
	if n < 1 {
		return &plain{}
	}
	if n > 1048576 {
		return &plain{n: 1048576}
	}
	return &plain{n: n}
}

func (p *plain) numbers() []int {
	if p == nil {
		return nil
	}
	return p.list
}

func (p *plain) has(i int) bool {
	return slices.Contains(p.numbers(), i)
}

func (p *plain) add(i int) bool {
	if p == nil || i < 0 || i >= p.n || p.has(i) {
		return false
	}
	p.list = append(p.list, i)
	slices.Sort(p.list)
	return true
}

func (p *plain) del(i int) bool {
	if !p.has(i) {
		return false
	}
	p.list = slices.DeleteFunc(slices.Clone(p.list), func(j int) bool { return i == j })
	return true
}

func (p *plain) or(q *plain) bool {
	changed := false
	for _, i := range slices.Clone(q.numbers()) {
		if p.add(i) {
			changed = true
		}
	}
	return changed
}

func (p *plain) minus(q *plain) bool {
	changed := false
	for _, i := range slices.Clone(q.numbers()) {
		if p.del(i) {
			changed = true
		}
	}
	return changed
}

func (p *plain) copy() *plain {
	if p == nil {
		return nil
	}
	return &plain{n: p.n, list: slices.Clone(p.list)}
}

// setOf numbers below n, and the same as a plain list.
func setOf(t testing.TB, n int, numbers ...int) (*bits.Set, *plain) {
	t.Helper()
	s, p := bits.New(n), newPlain(n)
	for _, i := range numbers {
		if got, want := s.Add(i), p.add(i); got != want {
			t.Fatalf("New(%d): Add(%d) = %v; want %v", n, i, got, want)
		}
	}
	same(t, s, p)
	return s, p
}

// same holds a set's elements against a plain list.
func same(t testing.TB, s *bits.Set, p *plain) {
	t.Helper()
	if got, want := s.List(), p.numbers(); !slices.Equal(got, want) {
		t.Fatalf("List() = %v; want %v", got, want)
	}
	if got, want := s.Len(), len(p.numbers()); got != want {
		t.Fatalf("Len() = %d; want %d", got, want)
	}
}

// holds checks a set's elements, and Has around each of them.
func holds(t testing.TB, s *bits.Set, want ...int) {
	t.Helper()
	same(t, s, &plain{list: want})
	for _, i := range want {
		for j := i - 2; j <= i+2; j++ {
			if got := s.Has(j); got != slices.Contains(want, j) {
				t.Fatalf("Has(%d) = %v of %v", j, got, want)
			}
		}
	}
}

// numbers from low to high - 1.
func numbers(low, high int) []int {
	var list []int
	for i := low; i < high; i++ {
		list = append(list, i)
	}
	return list
}

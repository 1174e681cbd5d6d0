package moves_test

import (
	"slices"
	"testing"

	"windlass/api"
	"windlass/moves"
	"windlass/samples"
)

// allMoves calls do with each list of moves between places 0 to n - 1, in
// ascending order of what they move to.
func allMoves(n int, do func(list [][2]int)) {
	var next func(to int, list [][2]int)
	next = func(to int, list [][2]int) {
		if to == n {
			do(list)
			return
		}
		next(to+1, list)
		for from := range n {
			next(to+1, append(list, [2]int{to, from}))
		}
	}
	next(0, nil)
}

// mix a list.
func mix(m *samples.Maker, list [][2]int) [][2]int {
	list = slices.Clone(list)
	for i := range list {
		k := i + m.Roll(len(list)-i)
		list[i], list[k] = list[k], list[i]
	}
	return list
}

// renamed is a list whose place p is names[p].
func renamed(list [][2]int, names []int) [][2]int {
	list = slices.Clone(list)
	for i, m := range list {
		list[i] = [2]int{names[m[0]], names[m[1]]}
	}
	return list
}

// TestP14_1AllMoves: all moves between few places, in all orders or in some, by
// small names and by great ones.
func TestP14_1AllMoves(t *testing.T) {
	m := samples.New(61)
	n := 0
	allMoves(4, func(list [][2]int) {
		for _, o := range orders(list) {
			lined(t, o, 4)
			n++
		}
	})
	allMoves(5, func(list [][2]int) {
		reverse := slices.Clone(list)
		slices.Reverse(reverse)
		for _, o := range [][][2]int{list, reverse, mix(m, list), mix(m, list)} {
			lined(t, o, 5)
			lined(t, renamed(o, []int{greatest, 0, 1 << 40, 16, greatest - 1}), 1+m.Roll(15))
			n++
		}
	})
	allMoves(6, func(list [][2]int) {
		lined(t, mix(m, list), 6)
		n++
	})
	// Lists of 4 places in all orders, of 5 in four orders, of 6 in one.
	if want := (1 + 4*4 + 6*16*2 + 4*64*6 + 256*24) + 4*6*6*6*6*6 + 7*7*7*7*7*7; n != want {
		t.Errorf("there are %d, not %d", n, want)
	}
}

// tally counts moves by their cycles.
type tally struct{ none, one, more, tails, selves int }

func (n *tally) count(list [][2]int) {
	on, cycles := cyclesOf(list)
	switch cycles {
	case 0:
		n.none++
	case 1:
		n.one++
	default:
		n.more++
	}
	tail, self := false, false
	for _, m := range list {
		tail = tail || on[m[0]] == 0 && on[m[1]] != 0
		self = self || m[0] == m[1]
	}
	if tail {
		n.tails++
	}
	if self {
		n.selves++
	}
}

// made are moves of places below n, mixed: each place is moved to once, or not at
// all. Those that are a permutation in part have many cycles.
func made(m *samples.Maker, n int) [][2]int {
	froms := make([]int, n)
	for p := range froms {
		froms[p] = p
	}
	for p := range froms {
		k := p + m.Roll(n-p)
		froms[p], froms[k] = froms[k], froms[p]
	}
	leaves, joins := 1+m.Roll(12), 1+m.Roll(12)
	var list [][2]int
	for to, from := range froms {
		switch {
		case m.Roll(leaves) == 0:
			continue
		case m.Roll(joins) == 0:
			from = m.Roll(n)
		}
		list = append(list, [2]int{to, from})
	}
	return mix(m, list)
}

// names for n places, and one more, all different.
func names(m *samples.Maker, n int) []int {
	seen := map[int]bool{}
	var list []int
	for len(list) <= n {
		p := int(m.Word() >> (1 + m.Roll(50)))
		if !seen[p] {
			seen[p] = true
			list = append(list, p)
		}
	}
	return list
}

// TestP14_1ManyMoves: made-up ones, of up to 60 places.
func TestP14_1ManyMoves(t *testing.T) {
	m := samples.New(62)
	var n tally
	for range 30000 {
		size := 2 + m.Roll(59)
		list := made(m, size)
		n.count(list)
		lined(t, list, size+m.Roll(3))
		places := names(m, size)
		lined(t, renamed(list, places), places[size])
	}
	if n.none < 2000 || n.one < 2000 || n.more < 2000 || n.tails < 2000 || n.selves < 2000 {
		t.Errorf("too few: %+v", n)
	}
}

// spoil one thing of moves.
func spoil(m *samples.Maker, list [][2]int, scratch int) ([][2]int, int) {
	if len(list) == 0 || m.Roll(8) == 0 {
		return list, m.Roll(20) - 3
	}
	i, side := m.Roll(len(list)), m.Roll(2)
	switch m.Roll(4) {
	case 0:
		list[i][side] = scratch
	case 1:
		list[i][side] = -1 - m.Roll(3)
	default:
		list[i][side] = list[m.Roll(len(list))][m.Roll(2)]
	}
	return list, scratch
}

func TestP14_1ManySpoiltMoves(t *testing.T) {
	m := samples.New(63)
	seen := map[api.Errno]int{}
	for range 20000 {
		size := 2 + m.Roll(30)
		list, scratch := spoil(m, made(m, size), size)
		seen[tryAny(t, list, scratch)]++
	}
	if seen[api.OK] < 3000 || seen[api.ErrArg] < 3000 {
		t.Errorf("too few: %v", seen)
	}
}

// TestP14_1Memory: results are new memory, and arguments stay as they are, with
// what lies behind them.
func TestP14_1Memory(t *testing.T) {
	m := samples.New(64)
	for range 2000 {
		list := made(m, 20)
		roomy := samples.Room(list, [2]int{77, 78})
		whole := slices.Clone(roomy[:cap(roomy)])
		first, second := lined(t, roomy, 20), lined(t, roomy, 20)
		want := slices.Clone(first)
		second = second[:cap(second)]
		for i := range second {
			second[i] = [2]int{-9, -9}
		}
		if !slices.Equal(first, want) || !slices.Equal(lined(t, roomy, 20), want) {
			t.Fatalf("Line(%v, 20) = %v, then %v", list, want, first)
		}
		if !slices.Equal(whole, roomy[:cap(roomy)]) {
			t.Fatalf("an argument is changed: %v, then %v", whole, roomy[:cap(roomy)])
		}
		for i := range roomy {
			roomy[i] = [2]int{-8, -8}
		}
		if !slices.Equal(first, want) {
			t.Fatalf("Line(%v, 20) = %v, then %v", list, want, first)
		}
	}
}

// TestP14_1Repeated: what was asked before does not matter, and nothing else does.
func TestP14_1Repeated(t *testing.T) {
	m := samples.New(65)
	for range 2000 {
		list := made(m, 30)
		want := lined(t, list, 30)
		moves.Line(made(m, 40), 40)
		moves.Line(list, 1)
		moves.Line(list, -1)
		for range 5 {
			if got := lined(t, slices.Clone(list), 30); !slices.Equal(got, want) {
				t.Fatalf("Line(%v, 30) = %v, then %v", list, want, got)
			}
		}
	}
}

func FuzzMoves(f *testing.F) {
	f.Add([]byte{1, 2, 2, 1, 3, 1, 4, 4}, 9)
	f.Add([]byte{1, 2, 3, 1}, 9)
	f.Add([]byte{0, 1, 1, 2, 2, 0, 5, 6, 6, 5, 255, 3}, 7)
	f.Add([]byte{1, 2, 1, 3}, 1)
	f.Fuzz(func(t *testing.T, b []byte, scratch int) {
		var list [][2]int
		for ; len(b) > 1 && len(list) < 100; b = b[2:] {
			list = append(list, [2]int{int(int8(b[0])), int(int8(b[1]))})
		}
		tryAny(t, list, scratch)
		// Most lists have something negative, or two moves to one place.
		seen := map[int]bool{}
		list = slices.DeleteFunc(list, func(m [2]int) bool {
			twice := seen[m[0]]
			seen[m[0]] = true
			return twice || m[0] < 0 || m[1] < 0
		})
		tryAny(t, list, scratch)
		tryAny(t, list, 200)
	})
}

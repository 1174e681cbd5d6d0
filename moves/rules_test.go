package moves_test

import (
	"fmt"
	"strings"
	"testing"
)

// The promise is read here by what it says of places, each of which has a word of
// its own at first: its number.

// cycle that a place is on; none has the number 0.
type cycle int

// cyclesOf moves by the places on them, and how many there are. Each place is
// followed to its from, as far as no place has been followed before.
func cyclesOf(moves [][2]int) (on map[int]cycle, n int) {
	from := map[int]int{}
	for _, m := range moves {
		if m[0] != m[1] {
			from[m[0]] = m[1]
		}
	}
	on = map[int]cycle{}
	path := map[int]int{} // by place, which of these met it; 0: none
	for i, m := range moves {
		at, ok := m[0], true
		for ok && path[at] == 0 {
			path[at] = i + 1
			at, ok = from[at]
		}
		if !ok || path[at] != i+1 || on[at] != 0 {
			continue
		}
		n++
		for on[at] == 0 {
			on[at] = cycle(n)
			at = from[at]
		}
	}
	return on, n
}

// words of places; those that are in no map still have their own.
type words map[int]int

func (w words) at(p int) int {
	if word, ok := w[p]; ok {
		return word
	}
	return p
}

// fault of pairs that are to do what the moves do; "" if there is none.
func fault(moves [][2]int, scratch int, line [][2]int) string {
	on, n := cyclesOf(moves)
	want, most := words{}, n
	for _, m := range moves {
		want[m[0]] = m[1]
		if m[0] != m[1] {
			most++
		}
	}
	if len(line) > most {
		return fmt.Sprint("there are ", len(line), " pairs, not ", most)
	}
	got, saved := words{}, map[cycle]bool{}
	for i, m := range line {
		_, isTo := want[m[0]]
		switch {
		case m[0] == scratch && (on[m[1]] == 0 || saved[on[m[1]]]):
			return fmt.Sprint("pair ", i, " writes scratch")
		case m[1] == scratch && on[m[0]] == 0:
			return fmt.Sprint("pair ", i, " reads scratch")
		case m[0] != scratch && !isTo:
			return fmt.Sprint("pair ", i, " changes ", m[0])
		case m[0] == scratch:
			saved[on[m[1]]] = true
		}
		got[m[0]] = got.at(m[1])
	}
	for p := range want {
		if got.at(p) != want.at(p) {
			return fmt.Sprint(p, " has the word of ", got.at(p), ", not of ", want.at(p))
		}
	}
	return ""
}

// TestRules: each rule finds what breaks it, and nothing else.
func TestRules(t *testing.T) {
	const scratch = 9
	for _, x := range []struct{ moves, line, want string }{
		{"1 2", "1 2", ""},
		{"1 2", "", "1 has the word of 1, not of 2"},
		{"1 2", "2 1", "pair 0 changes 2"},
		{"1 2", "1 3", "1 has the word of 3"},
		{"1 2", "1 2, 1 2", "2 pairs, not 1"},
		{"4 4", "", ""},
		{"4 4", "4 4", "1 pairs, not 0"},
		{"4 4, 5 4", "5 4", ""},
		{"4 4, 5 4", "4 5", "4 has the word of 5"},
		{"1 2, 3 1", "3 1, 1 2", ""},
		{"1 2, 3 1", "1 2, 3 1", "3 has the word of 2"},
		{"1 2, 3 1", "3 1, 9 2", "pair 1 writes scratch"},
		{"1 2, 3 1", "9 1, 3 9", "pair 0 writes scratch"},
		{"1 2, 3 1", "3 1, 1 9", "pair 1 reads scratch"},
		{"1 2, 2 1", "9 1, 1 2, 2 9", ""},
		{"1 2, 2 1", "9 2, 2 1, 1 9", ""},
		{"1 2, 2 1", "9 1, 1 9, 2 9", "1 has the word of 1"},
		{"1 2, 2 1", "1 2, 2 1", "2 has the word of 2"},
		{"1 2, 2 1", "9 1, 1 2, 2 9, 1 1", "4 pairs, not 3"},
		{"1 2, 2 1", "9 1, 9 2, 2 9", "pair 1 writes scratch"},
		{"1 2, 2 1", "9 3, 1 2, 2 9", "pair 0 writes scratch"},
		{"1 2, 2 1", "3 1, 1 2, 2 3", "pair 0 changes 3"},
		{"1 2, 2 1, 3 1", "3 1, 9 1, 1 2, 2 9", ""},
		{"1 2, 2 1, 3 1", "3 1, 1 2, 2 3", ""},
		{"1 2, 2 1, 3 1", "9 1, 3 9, 1 2, 2 9", "pair 1 reads scratch"},
		{"1 2, 2 3, 3 1, 5 6, 6 5", "9 5, 5 6, 6 9, 9 3, 3 1, 1 2, 2 9", ""},
		{"1 2, 2 3, 3 1, 5 6, 6 5", "9 3, 3 1, 1 2, 2 9", "has the word of"},
		{"1 2, 2 3, 3 1, 5 6, 6 5", "9 5, 5 6, 6 9, 9 3, 3 1, 1 2, 2 9, 2 9", "8 pairs, not 7"},
	} {
		got := fault(read(x.moves), scratch, read(x.line))
		if (got == "") != (x.want == "") || !strings.Contains(got, x.want) {
			t.Errorf("%s by %s: %q; want %q", x.moves, x.line, got, x.want)
		}
	}
}

func TestCycles(t *testing.T) {
	for _, x := range []struct {
		moves string
		want  []int // the places that are on one
		n     int
	}{
		{"", nil, 0},
		{"1 2", nil, 0},
		{"4 4", nil, 0},
		{"1 2, 2 3, 4 2", nil, 0},
		{"1 2, 2 1", []int{1, 2}, 1},
		{"2 1, 1 2, 3 1, 4 3", []int{1, 2}, 1},
		{"4 3, 3 1, 2 1, 1 2", []int{1, 2}, 1},
		{"4 4, 1 4, 2 1", nil, 0},
		{"1 2, 3 4, 2 1, 4 3", []int{1, 2, 3, 4}, 2},
		{"1 3, 3 5, 5 1, 4 4, 6 8, 8 7, 7 6, 2 7", []int{1, 3, 5, 6, 7, 8}, 2},
		{"0 1, 1 2, 2 3, 3 0", []int{0, 1, 2, 3}, 1},
	} {
		on, n := cyclesOf(read(x.moves))
		ok := n == x.n && len(on) == len(x.want)
		for _, p := range x.want {
			ok = ok && on[p] != 0
		}
		if !ok {
			t.Errorf("%s: %d, %v; want %d, %v", x.moves, n, on, x.n, x.want)
		}
	}
}

package moves_test

import (
	"slices"
	"strconv"
	"strings"
	"testing"

	"windlass/api"
	"windlass/moves"
)

// read a text of moves: "1 2, 3 1".
func read(s string) [][2]int {
	var list [][2]int
	for part := range strings.SplitSeq(s, ",") {
		if f := strings.Fields(part); len(f) == 2 {
			list = append(list, [2]int{number(f[0]), number(f[1])})
		}
	}
	return list
}

func number(s string) int {
	n, err := strconv.Atoi(s)
	if err != nil {
		panic(err)
	}
	return n
}

// lined are the pairs that Line answers, by which no rule is broken.
func lined(t testing.TB, list [][2]int, scratch int) [][2]int {
	t.Helper()
	line, e := moves.Line(list, scratch)
	if e != api.OK {
		t.Fatalf("Line(%v, %d) returns %d", list, scratch, int(e))
	}
	if told := fault(list, scratch, line); told != "" {
		t.Fatalf("Line(%.300v, %d) = %.300v: %s", list, scratch, line, told)
	}
	return line
}

// orders of a list, all of them.
func orders(list [][2]int) [][][2]int {
	if len(list) == 0 {
		return [][][2]int{nil}
	}
	var all [][][2]int
	for i := range list {
		rest := slices.Delete(slices.Clone(list), i, i+1)
		for _, o := range orders(rest) {
			all = append(all, append([][2]int{list[i]}, o...))
		}
	}
	return all
}

// after pairs one after the other: the words that places 0 to 8 have, by the
// places that had them.
func after(line [][2]int) string {
	var places [10]int
	for i := range places {
		places[i] = i
	}
	for _, m := range line {
		places[m[0]] = places[m[1]]
	}
	var s strings.Builder
	for _, p := range places[:9] {
		s.WriteString(strconv.Itoa(p))
	}
	return s.String()
}

func TestP14_1Examples(t *testing.T) {
	for _, x := range []struct {
		moves string
		after string // the words of places 0 to 8
		most  int    // pairs
	}{
		{"", "012345678", 0},
		{"4 4", "012345678", 0},
		{"1 2", "022345678", 1},
		{"0 8", "812345678", 1},
		{"8 0", "012345670", 1},

		// None is written ahead of a read of it.
		{"1 2, 3 1", "022145678", 2},
		{"1 2, 2 3, 3 4, 4 5", "023455678", 4},
		{"2 1, 3 2, 4 3, 5 4", "011234678", 4},
		{"1 0, 2 0, 3 0", "000045678", 3},
		{"1 0, 2 0, 3 1, 4 1, 5 2", "000112678", 5},
		{"0 1, 2 3, 4 5", "113355678", 3},

		// Cycles.
		{"1 2, 2 1", "021345678", 3},
		{"1 2, 2 3, 3 1", "023145678", 4},
		{"1 3, 2 1, 3 2", "031245678", 4},
		{"0 1, 1 2, 2 3, 3 4, 4 0", "123405678", 6},
		{"0 8, 8 0", "812345670", 3},
		{"0 1, 1 0, 4 5, 5 4", "102354678", 6},
		{"0 1, 1 0, 5 6, 6 7, 7 5", "102346758", 7},

		// Places that are read from a cycle, and from there on.
		{"1 2, 2 1, 3 1", "021145678", 4},
		{"1 2, 2 1, 3 1, 4 2", "021125678", 5},
		{"1 2, 2 1, 3 1, 4 1", "021115678", 5},
		{"1 2, 2 1, 3 1, 4 3", "021135678", 5},
		{"1 2, 2 3, 3 1, 4 3, 5 4", "023134678", 6},

		// To itself.
		{"4 4, 5 4", "012344678", 1},
		{"4 4, 5 4, 6 5", "012344578", 2},
		{"4 4, 5 4, 6 4", "012344478", 2},
		{"3 3, 4 4, 1 2, 2 1", "021345678", 3},
		{"4 4, 1 2, 2 1, 3 1", "021145678", 4},
		{"0 0, 1 1, 2 2, 3 3, 4 4", "012345678", 0},
	} {
		for _, list := range orders(read(x.moves)) {
			line := lined(t, list, 9)
			if got := after(line); got != x.after || len(line) > x.most {
				t.Errorf("Line(%v, 9) = %v: %s; want %s by at most %d", list, line, got, x.after, x.most)
			}
		}
	}
}

// TestP14_1OneWay: moves for which there is one list of pairs.
func TestP14_1OneWay(t *testing.T) {
	for _, x := range []struct{ moves, want string }{
		{"1 2", "1 2"},
		{"1 2, 3 1", "3 1, 1 2"},
		{"4 4, 1 2", "1 2"},
		{"4 4, 5 4", "5 4"},
		{"1 2, 2 3, 3 4, 4 5", "1 2, 2 3, 3 4, 4 5"},
		{"2 1, 3 2, 4 3, 5 4", "5 4, 4 3, 3 2, 2 1"},
		{"2 1, 3 2, 4 3, 4000000000000 4", "4000000000000 4, 4 3, 3 2, 2 1"},
	} {
		for _, list := range orders(read(x.moves)) {
			if got := lined(t, list, 9); !slices.Equal(got, read(x.want)) {
				t.Errorf("Line(%v, 9) = %v; want %s", list, got, x.want)
			}
		}
	}
}

// TestP14_1None: nil and empty lists are the same, whatever scratch is.
func TestP14_1None(t *testing.T) {
	for _, scratch := range []int{0, 1, 16, greatest} {
		for _, list := range [][][2]int{nil, {}, make([][2]int, 0, 9), {{4, 4}}, {{5, 5}, {4, 4}}} {
			if line, e := moves.Line(list, scratch); len(line) > 0 || e != api.OK {
				t.Errorf("Line(%v, %d) = %v, %d", list, scratch, line, int(e))
			}
		}
	}
}

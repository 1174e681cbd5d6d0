package moves_test

import (
	"slices"
	"testing"
)

// TestP14_1Great: as many moves as this, in lines, cycles and fans.
func TestP14_1Great(t *testing.T) {
	const n = 1 << 16
	for _, x := range []struct {
		name   string
		from   func(to int) int
		cycles int
	}{
		{"a line, the first one read by none", func(to int) int { return to + 1 }, 0},
		{"a line, the last one read by none", func(to int) int { return (to + n) % (n + 1) }, 0},
		{"a cycle", func(to int) int { return (to + 1) % n }, 1},
		{"a cycle, the other way", func(to int) int { return (to + n - 1) % n }, 1},
		{"a cycle by long ways", func(to int) int { return (to + 54321) % n }, 1},
		{"cycles of two", func(to int) int { return to ^ 1 }, n / 2},
		{"cycles of two, far apart", func(to int) int { return to ^ n/2 }, n / 2},
		{"cycles of four", func(to int) int { return to&^3 | (to+1)&3 }, n / 4},
		{"each to itself", func(to int) int { return to }, 0},
		{"one that all are read from", func(int) int { return 0 }, 0},
		{"a tree", func(to int) int { return to / 2 }, 0},
		{"a cycle, and all others read from it", func(to int) int { return (to%2 + 1) % 2 }, 1},
	} {
		var list [][2]int
		for to := range n {
			list = append(list, [2]int{to, x.from(to)})
		}
		reverse := slices.Clone(list)
		slices.Reverse(reverse)
		for _, l := range [][][2]int{list, reverse} {
			if _, got := cyclesOf(l); got != x.cycles {
				t.Errorf("%s: there are %d cycles, not %d", x.name, got, x.cycles)
			}
			lined(t, l, n+7)
		}
	}
}

package moves_test

import (
	"math"
	"slices"
	"testing"

	"windlass/api"
	"windlass/moves"
)

const greatest = math.MaxInt

// answers holds Line against an error.
func answers(t testing.TB, list [][2]int, scratch int, want api.Errno) {
	t.Helper()
	line, e := moves.Line(list, scratch)
	if e != want || e != api.OK && len(line) > 0 {
		t.Errorf("Line(%v, %d) = %v, %d; want %d", list, scratch, line, int(e), int(want))
	}
}

func TestP14_1Errors(t *testing.T) {
	for _, x := range []struct {
		moves   string
		scratch int
		want    api.Errno
	}{
		// Nothing may be negative.
		{"1 2", -1, api.ErrArg},
		{"1 2", math.MinInt, api.ErrArg},
		{"", -1, api.ErrArg},
		{"", math.MinInt, api.ErrArg},
		{"", 0, api.OK},
		{"4 4", -1, api.ErrArg},
		{"-1 2", 9, api.ErrArg},
		{"2 -1", 9, api.ErrArg},
		{"-1 -1", 9, api.ErrArg},
		{"-1 -1", -1, api.ErrArg},
		{"-2 -1", 9, api.ErrArg},
		{"0 0", 9, api.OK},
		{"0 1, 1 0", 9, api.OK},
		{"-9223372036854775808 2", 9, api.ErrArg},
		{"2 -9223372036854775808", 9, api.ErrArg},
		{"9223372036854775807 2, 2 9223372036854775807", 9, api.OK},
		{"9223372036854775806 2, 2 9223372036854775806", greatest, api.OK},

		// Two moves to one place.
		{"1 2, 1 3", 9, api.ErrArg},
		{"1 2, 1 2", 9, api.ErrArg},
		{"4 4, 4 4", 9, api.ErrArg},
		{"4 4, 4 5", 9, api.ErrArg},
		{"4 5, 4 4", 9, api.ErrArg},
		{"1 2, 2 3, 3 1, 1 4", 9, api.ErrArg},
		{"0 2, 0 3", 9, api.ErrArg},
		{"9223372036854775807 2, 9223372036854775807 3", 9, api.ErrArg},
		{"2 1, 3 1", 9, api.OK},

		// Scratch is a place of its own, also if it is not needed.
		{"9 1", 9, api.ErrArg},
		{"1 9", 9, api.ErrArg},
		{"9 9", 9, api.ErrArg},
		{"0 1", 0, api.ErrArg},
		{"1 0", 0, api.ErrArg},
		{"1 2", 0, api.OK},
		{"1 2", 3, api.OK},
		{"9223372036854775807 2", greatest, api.ErrArg},
		{"2 9223372036854775807", greatest, api.ErrArg},
		{"1 2, 2 1, 4 9", 9, api.ErrArg},
		{"1 2, 2 1, 9 4", 9, api.ErrArg},
		{"1 2, 2 1, 8 4", 9, api.OK},
	} {
		answers(t, read(x.moves), x.scratch, x.want)
	}
}

// TestP14_1EachPlace: one fault, at each place of a list.
func TestP14_1EachPlace(t *testing.T) {
	base := read("1 2, 2 1, 3 1, 4 4, 5 6, 6 7")
	const scratch = 9
	answers(t, base, scratch, api.OK)
	for i := range base {
		for side := range 2 {
			for _, p := range []int{-1, -2, math.MinInt, scratch} {
				list := slices.Clone(base)
				list[i][side] = p
				answers(t, list, scratch, api.ErrArg)
			}
			answers(t, base, base[i][side], api.ErrArg)
		}
		for k := range base {
			list := slices.Clone(base)
			list[i][0] = base[k][0]
			want := api.ErrArg
			if i == k {
				want = api.OK
			}
			answers(t, list, scratch, want)
			list[i] = base[k]
			answers(t, list, scratch, want)
		}
	}
}

// wanted is what Line returns, by the words of the chapter.
func wanted(list [][2]int, scratch int) api.Errno {
	if scratch < 0 {
		return api.ErrArg
	}
	for i, m := range list {
		for _, p := range m {
			if p < 0 || p == scratch {
				return api.ErrArg
			}
		}
		for _, other := range list[:i] {
			if other[0] == m[0] {
				return api.ErrArg
			}
		}
	}
	return api.OK
}

// tryAny holds Line against the chapter's words, for any arguments.
func tryAny(t testing.TB, list [][2]int, scratch int) api.Errno {
	t.Helper()
	want := wanted(list, scratch)
	if want == api.OK {
		lined(t, list, scratch)
	} else {
		answers(t, list, scratch, want)
	}
	return want
}

// TestP14_1AllShort: all lists of up to three moves of small places, with all small
// places for scratch.
func TestP14_1AllShort(t *testing.T) {
	const least, most = -1, 4
	seen := map[api.Errno]int{}
	var lists func(list [][2]int)
	lists = func(list [][2]int) {
		for scratch := least; scratch <= most; scratch++ {
			seen[tryAny(t, list, scratch)]++
		}
		if len(list) == 3 {
			return
		}
		for to := least; to <= most; to++ {
			for from := least; from <= most; from++ {
				lists(append(list, [2]int{to, from}))
			}
		}
	}
	lists(nil)
	// Lists of four places, without the one that is scratch.
	if want := 5 * (1 + 4*4 + 4*3*4*4 + 4*3*2*4*4*4); seen[api.OK] != want {
		t.Errorf("%d are allowed, not %d", seen[api.OK], want)
	}
}

package scan_test

import (
	"fmt"
	"slices"
	"strings"
	"testing"

	"windlass/api"
)

// The rules are read here as the chapter says them: over all places, and all
// pairs of them.

// fault of what each place of a graph has, by its places' kinds and intervals; ""
// if there is none.
func fault(kinds []api.Kind, spans []api.Interval, bound []int) string {
	if len(bound) != len(kinds) {
		return fmt.Sprint("there are ", len(kinds), " places, not ", len(bound))
	}
	of := map[int]api.Interval{}
	for _, s := range spans {
		of[s.Place] = s
	}
	for p, b := range bound {
		s, ok := of[p]
		if told := placeFault(ok, s.Held, kinds[p], b); told != "" {
			return fmt.Sprint("place ", p, " has ", b, ": ", told)
		}
	}
	for i, s := range spans {
		for _, r := range spans[:i] {
			if bound[s.Place] == bound[r.Place] && s.From <= r.To && r.From <= s.To {
				return fmt.Sprint("places ", r.Place, " and ", s.Place, " both have ", bound[s.Place])
			}
		}
	}
	return slotsFault(kinds, bound)
}

// placeFault of what one place has.
func placeFault(isUsed, held bool, kind api.Kind, b int) string {
	isRegister, isKept, isSlot := 0 <= b && b <= 11, 6 <= b && b <= 11, b >= 16
	switch {
	case !isUsed && b != -1:
		return "it has no interval"
	case !isUsed:
		return ""
	case !isRegister && !isSlot:
		return "no such place"
	case held && kind == api.Ptr && !isSlot:
		return "a pointer is held"
	case held && !isKept && !isSlot:
		return "a number is held"
	}
	return ""
}

func slotsFault(kinds []api.Kind, bound []int) string {
	slots := map[int]api.Kind{}
	for p, b := range bound {
		if b < 16 {
			continue
		}
		if kind, ok := slots[b]; ok && kind != kinds[p] {
			return fmt.Sprint(b, " has both kinds")
		}
		slots[b] = kinds[p]
	}
	for i := range len(slots) {
		if _, ok := slots[16+i]; !ok {
			return fmt.Sprint("there are ", len(slots), " slots, but ", 16+i, " is none")
		}
	}
	if len(slots) > len(kinds) {
		return "more slots than places"
	}
	return ""
}

// crowding is the greatest number of intervals at a position; held reports
// whether a pointer is held over a call.
func crowding(kinds []api.Kind, spans []api.Interval) (most int, held bool) {
	for _, s := range spans {
		// Where there are most, one begins.
		n := 0
		for _, r := range spans {
			if r.From <= s.From && s.From <= r.To {
				n++
			}
		}
		most = max(most, n)
		held = held || s.Held && kinds[s.Place] == api.Ptr
	}
	return most, held
}

// registersFault is a place that has no register, if all have to have one.
func registersFault(kinds []api.Kind, spans []api.Interval, bound []int) string {
	if most, held := crowding(kinds, spans); most > 6 || held {
		return ""
	}
	for _, s := range spans {
		if bound[s.Place] > 11 {
			return fmt.Sprint("place ", s.Place, " has ", bound[s.Place], ", no register")
		}
	}
	return ""
}

// TestRules: each rule finds what breaks it, and nothing else.
func TestRules(t *testing.T) {
	// Places 0 to 3 are numbers, 4 to 6 are pointers; 1 and 5 are held, 3 and 6 are not used.
	kinds := []api.Kind{0, 0, 0, 0, 1, 1, 1}
	spans := []api.Interval{{Place: 0, From: 0, To: 3}, {Place: 1, From: 3, To: 5, Held: true}, {Place: 2, From: 6, To: 9}, {Place: 4, From: 0, To: 2}, {Place: 5, From: 4, To: 9, Held: true}}
	for _, x := range []struct {
		bound []int
		want  string // a word of what is told
	}{
		{[]int{0, 6, 6, -1, 1, 16, -1}, ""},
		{[]int{11, 10, 11, -1, 0, 16, -1}, ""},
		{[]int{16, 17, 17, -1, 18, 19, -1}, ""},
		{[]int{16, 11, 16, -1, 17, 17, -1}, ""},
		{[]int{0, 16, 0, -1, 1, 17, -1}, ""},
		{[]int{0, 6, 6, -1, 1, 16}, "7 places"},
		{[]int{0, 6, 6, -1, 1, 16, -1, -1}, "7 places"},
		{nil, "7 places"},
		{[]int{0, 6, 6, 2, 1, 16, -1}, "place 3 has 2: it has no"},
		{[]int{0, 6, 6, 16, 1, 17, -1}, "place 3 has 16: it has no"},
		{[]int{0, 6, 6, -1, 1, 16, -2}, "place 6 has -2: it has no"},
		{[]int{-1, 6, 6, -1, 1, 16, -1}, "place 0 has -1: no such"},
		{[]int{12, 6, 6, -1, 1, 16, -1}, "place 0 has 12: no such"},
		{[]int{0, 6, 15, -1, 1, 16, -1}, "place 2 has 15: no such"},
		{[]int{0, 5, 6, -1, 1, 16, -1}, "place 1 has 5: a number"},
		{[]int{0, 6, 6, -1, 1, 11, -1}, "place 5 has 11: a pointer"},
		{[]int{0, 6, 6, -1, 1, 5, -1}, "place 5 has 5: a pointer"},
		{[]int{6, 6, 7, -1, 1, 16, -1}, "places 0 and 1 both"},
		{[]int{0, 6, 7, -1, 0, 16, -1}, "places 0 and 4 both"},
		{[]int{0, 16, 7, -1, 1, 16, -1}, "places 1 and 5 both"},
		{[]int{16, 6, 16, -1, 1, 16, -1}, "places 2 and 5 both"},
		{[]int{16, 6, 0, -1, 1, 16, -1}, "16 has both"},
		{[]int{0, 16, 17, -1, 17, 18, -1}, "17 has both"},
		{[]int{0, 6, 6, -1, 1, 17, -1}, "16 is none"},
		{[]int{0, 16, 17, -1, 1, 19, -1}, "18 is none"},
	} {
		got := fault(kinds, spans, x.bound)
		if (got == "") != (x.want == "") || !strings.Contains(got, x.want) {
			t.Errorf("%v: %q; want %q", x.bound, got, x.want)
		}
	}
}

// TestRegistersRule: it is for six intervals at one position, without a pointer
// that is held.
func TestRegistersRule(t *testing.T) {
	six := make([]api.Interval, 6)
	for i := range six {
		six[i] = api.Interval{Place: i, From: i, To: 5 + i, Held: i%2 == 0}
	}
	kinds := make([]api.Kind, 7)
	bound := []int{6, 7, 8, 9, 10, 16, 11}
	if got := registersFault(kinds, six, bound); !strings.HasPrefix(got, "place 5 has 16") {
		t.Errorf("of six at one position it tells %q", got)
	}
	if got := registersFault(kinds, six, []int{6, 7, 8, 9, 10, 11, 11}); got != "" {
		t.Errorf("of six in registers it tells %q", got)
	}
	for _, seventh := range []api.Interval{{Place: 6, From: 5, To: 5}, {Place: 6, From: 0, To: 9}, {Place: 6, From: 0, To: 5}} {
		if got := registersFault(kinds, append(slices.Clone(six), seventh), bound); got != "" {
			t.Errorf("of seven at one position, %v, it tells %q", seventh, got)
		}
	}
	for _, seventh := range []api.Interval{{Place: 6, From: 6, To: 8}, {Place: 6, From: 0, To: 4}} {
		if got := registersFault(kinds, append(slices.Clone(six), seventh), bound); got == "" {
			t.Errorf("of six at one position, and %v, it tells nothing", seventh)
		}
	}
	for p, want := range []bool{false, true, false, true} {
		kinds := slices.Clone(kinds)
		kinds[p] = api.Ptr
		if got := registersFault(kinds, six, bound); (got != "") != want {
			t.Errorf("where pointer %d is held: %v, it tells %q", p, !want, got)
		}
	}
}

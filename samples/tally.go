package samples

import (
	"slices"
	"strconv"

	"windlass/api"
)

// Tally counts what has been seen in runs, so that a test can tell whether its
// programs do enough.
type Tally map[string]int

// Count a run.
func (t Tally) Count(r api.Result) {
	t.note("exited", r.End.Kind == api.Exited)
	t.note("recovered", r.End.Kind == api.Exited && r.Panics > 0)
	t.note("uncaught", r.End.Kind == api.Uncaught)
	t.note("by zero", r.End == api.End{Kind: api.Uncaught, Value: api.ByZero})
	t.note("by null", r.End == api.End{Kind: api.Uncaught, Value: api.ByNull})
	t.note("no fuel", r.End.Kind == api.NoFuel)
	t.note("two panics", r.Panics >= 2)
	t.note("three panics", r.Panics >= 3)
	t.note("three waiting", r.Defers >= 3)
	t.note("four frames", r.Depth >= 4)
	t.note("five events", len(r.Events) >= 5)
}

func (t Tally) note(what string, seen bool) {
	if seen {
		t[what]++
	}
}

// Few tells what has been seen fewer than so many times: of what is seen in all
// programs of frames and panics, and of what is named besides.
func (t Tally) Few(least int, more ...string) []string {
	var few []string
	all := []string{"exited", "recovered", "uncaught", "two panics", "three panics", "three waiting", "four frames", "five events"}
	for _, what := range slices.Concat(all, more) {
		if t[what] < least {
			few = append(few, what+": "+strconv.Itoa(t[what]))
		}
	}
	return few
}

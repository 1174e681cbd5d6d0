package samples

import (
	"slices"
	"strconv"

	"windlass/api"
	"windlass/trace"
)

// Twins are two things that are to behave in the same way, each as a run with a
// fuel, and how long one may take for what the other does.
type Twins struct {
	First, Second func(fuel int) api.Result
	Ahead         func(k int) int // what the first does in k steps, the second does in so many
	Back          func(n int) int // what the second does in n steps, the first does in so many
}

// Fault of twins with a fuel that one of them is given; "" if there is none.
func (w Twins) Fault(fuel int) string {
	if told := w.fault(w.First(fuel), w.Second(w.Ahead(fuel)), fuel); told != "" {
		return "the first, " + told
	}
	if told := w.fault(w.Second(fuel), w.First(w.Back(fuel)), fuel); told != "" {
		return "the second, " + told
	}
	return ""
}

// fault of a run with a fuel, if the other one with its fuel does not do all that
// it does.
func (w Twins) fault(run, other api.Result, fuel int) string {
	switch ended := trace.Ended(run.End); {
	case !trace.Prefix(run.Events, other.Events), ended && !SameBehavior(run, other):
		return "with fuel " + strconv.Itoa(fuel) + ", does " + Told(run) + "; the other one does " + Told(other)
	case !ended && (run.End != api.End{Kind: api.NoFuel} || run.Steps != fuel):
		return "with fuel " + strconv.Itoa(fuel) + ", ends with " + Told(run)
	}
	return ""
}

// SameBehavior reports whether two runs have the same events and ending.
func SameBehavior(a, b api.Result) bool {
	return slices.Equal(a.Events, b.Events) && a.End == b.End
}

// Told is a run as a text.
func Told(r api.Result) string {
	return trace.Print(r.Events, r.End) + " in " + strconv.Itoa(r.Steps) + " steps"
}

package lower_test

import (
	"testing"

	"windlass/api"
	"windlass/lower"
	"windlass/samples"
)

// answers holds Lower against an error, beside which there is nothing.
func answers(t testing.TB, name string, g api.Graphs, want api.Errno) {
	t.Helper()
	b, plan, e := lower.Lower(g)
	if e != want {
		t.Errorf("%s: Lower returns %d; want %d", name, int(e), int(want))
	}
	if e != api.OK && (len(b.Funcs) > 0 || len(plan.Place) > 0 || len(plan.Start) > 0) {
		t.Errorf("%s: beside %d, Lower returns %v, %v", name, int(e), b, plan)
	}
}

func TestP15_1Wrong(t *testing.T) {
	for _, x := range samples.AllWrongGraphs() {
		answers(t, x.Name, x.Graphs, api.ErrNode)
	}
}

// TestP15_1WrongAndBig: graphs that are not valid are that first of all.
func TestP15_1WrongAndBig(t *testing.T) {
	for _, big := range []int{0, 5, 13} {
		for bad := range api.MaxFuncs {
			g := great(big, calls(2000, 2), 0)
			if bad == 0 {
				answers(t, "too big", g, api.ErrBig)
			}
			g.Funcs[bad].Kinds[1000] = 2
			answers(t, "too big, and not valid", g, api.ErrNode)
		}
	}
}

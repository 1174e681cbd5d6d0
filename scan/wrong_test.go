package scan_test

import (
	"testing"

	"windlass/api"
	"windlass/ir"
	"windlass/samples"
	"windlass/scan"
)

// errorOf Assign, -1 if there is a list beside one.
func errorOf(g api.Graphs, f int) api.Errno {
	bound, e := scan.Assign(g, f)
	if e != api.OK && len(bound) > 0 {
		return -1
	}
	return e
}

func TestP13_1Errors(t *testing.T) {
	for _, x := range samples.Asks() {
		if got := errorOf(x.Graphs, x.Graph); got != x.Want {
			t.Errorf("%s: Assign returns %d for graph %d; want %d (-1: and a list)", x.Name, int(got), x.Graph, int(x.Want))
		}
	}
}

// A program that is valid only if it is read free: places and arguments may be any.
func TestP13_1ReadFree(t *testing.T) {
	const text = "graph places=3; call 4 1 2; out 1; ret -"
	if g, _ := samples.Graphs(text + callees); ir.Check(g, true) == api.OK {
		t.Fatal("it is valid, read bound, too")
	}
	check(t, example{text: text, want: "1r 2r", apart: "1 2"})
}

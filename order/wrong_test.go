package order_test

import (
	"testing"

	"windlass/api"
	"windlass/ir"
	"windlass/order"
	"windlass/samples"
)

// both calls' errors, -1 if there is a list beside one.
func both(g api.Graphs, f int) [2]api.Errno {
	line, d := order.Line(g, f)
	spans, e := order.Spans(g, f)
	if d != api.OK && len(line) > 0 || e != api.OK && len(spans) > 0 {
		return [2]api.Errno{-1, -1}
	}
	return [2]api.Errno{d, e}
}

func TestP12_1Errors(t *testing.T) {
	for _, x := range samples.Asks() {
		if got := both(x.Graphs, x.Graph); got != [2]api.Errno{x.Want, x.Want} {
			t.Errorf("%s: Line and Spans of graph %d return %v; want %d (-1: and lists)", x.Name, x.Graph, got, int(x.Want))
		}
	}
}

// A program that is valid only if it is read free: places and arguments may be any.
func TestP12_1ReadFree(t *testing.T) {
	const free = "graph places=3; call 1 1 2 0; out 1; ret - | graph params=5,3 result; ret 5"
	if ir.Check(graphs(t, free), true) == api.OK {
		t.Fatal("it is valid, read bound, too")
	}
	check(t, example{text: free, line: "0 1 2", spans: "0:0-0 1:0-1 2:0-0"})
}

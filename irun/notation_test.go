package irun_test

import (
	"testing"

	"windlass/api"
	"windlass/samples"
)

// program of a text (samples.Graphs).
func program(t testing.TB, text string) api.Graphs {
	t.Helper()
	g, ok := samples.Graphs(text)
	if !ok {
		t.Fatalf("%q is no program of graphs", text)
	}
	return g
}

func next(n *api.Node) *int      { return &n.Next }
func elsewhere(n *api.Node) *int { return &n.Else }

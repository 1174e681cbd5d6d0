package live_test

import (
	"slices"
	"strings"

	"windlass/api"
)

// The second reading goes by the chapter's words: it searches for a path from a
// node to one that reads the place. What a node uses it knows by a table of its
// own.

// fields that the operations use, in their order: D and E are written, A and B
// are read, and so are all Args for *; n and e are Next and Else.
const fields = "Dn DAn DABn Dn An Dn DAn ABn Ane n D*n A *n A DEn Dn An A"

// use of a node.
type use struct{ reads, writes, ways []int }

func usesOf(f api.Graph) []use {
	list := make([]use, len(f.Nodes))
	for i, n := range f.Nodes {
		for _, c := range strings.Fields(fields)[n.Op-api.NConst] {
			list[i].field(n, c)
		}
	}
	return list
}

func (u *use) field(n api.Node, c rune) {
	switch c {
	case 'D':
		u.writes = append(u.writes, n.D)
	case 'E':
		u.writes = append(u.writes, n.E)
	case 'A':
		u.reads = append(u.reads, n.A)
	case 'B':
		u.reads = append(u.reads, n.B)
	case '*':
		u.reads = append(u.reads, n.Args...)
	case 'n':
		u.ways = append(u.ways, n.Next)
	case 'e':
		u.ways = append(u.ways, n.Else)
	}
}

// reaches reports whether there is a path from a node to one that reads the
// place, on which no node before that one writes it.
func reaches(uses []use, node, place int) bool {
	been := make([]bool, len(uses))
	var from func(i int) bool
	from = func(i int) bool {
		if been[i] {
			return false
		}
		been[i] = true
		if slices.Contains(uses[i].reads, place) {
			return true
		}
		return !slices.Contains(uses[i].writes, place) && slices.ContainsFunc(uses[i].ways, from)
	}
	return from(node)
}

// reading is what is live at, and after, each node.
func reading(f api.Graph) (in, out [][]int) {
	uses := usesOf(f)
	for i, u := range uses {
		in, out = append(in, nil), append(out, nil)
		for place := range f.Kinds {
			if reaches(uses, i, place) {
				in[i] = append(in[i], place)
			}
			if slices.ContainsFunc(u.ways, func(way int) bool { return reaches(uses, way, place) }) {
				out[i] = append(out[i], place)
			}
		}
	}
	return in, out
}

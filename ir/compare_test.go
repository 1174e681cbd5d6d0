package ir_test

import (
	"math/rand"
	"slices"
	"testing"

	"windlass/api"
	"windlass/ir"
)

// compare holds Check against the second reading, in both ways; it reports
// whether the program is valid in each of them.
func compare(t *testing.T, g api.Graphs) (free, bound bool) {
	t.Helper()
	var valid [2]bool
	for i, bound := range []bool{false, true} {
		fault := faultOf(g, bound)
		valid[i] = ir.Check(g, bound) == api.OK
		if valid[i] != (fault == "") {
			t.Fatalf("bound %v: Check returns %d; the second reading says %q; %v", bound, int(ir.Check(g, bound)), fault, g)
		}
	}
	return valid[0], valid[1]
}

// All places, good and bad ones, in all fields of all operations.
func TestP7_1AllPlaces(t *testing.T) {
	places := []int{-1, 0, 1, 2, 15, 16}
	free, bound := 0, 0
	for code := range 20 * 6 * 6 * 6 * 6 {
		n := api.Node{
			Op: api.NodeOp(code / 1296), By: api.Shl, F: subject, Cell: 1, Next: 1, Else: 1,
			D: places[code/216%6], E: places[code/36%6], A: places[code/6%6], B: places[code%6],
		}
		n.Args = []int{n.A, n.B}
		g := api.Graphs{Funcs: []api.Graph{graph(0, false, n), graph(2, true, n)}}
		g.Funcs[0].Kinds, g.Funcs[1].Kinds = kindsOf(16), kindsOf(16)
		x, y := compare(t, g)
		free, bound = free+count(x), bound+count(y)
	}
	if free < 500 || bound < 500 {
		t.Errorf("of them %d and %d are valid", free, bound)
	}
}

func count(holds bool) int {
	if holds {
		return 1
	}
	return 0
}

// grower makes programs that are mostly valid, read in one way.
type grower struct {
	r     *rand.Rand
	bound bool
}

// some number from -1 on, seldom a greater one than n.
func (w grower) some(n int) int {
	if w.r.Intn(12) == 0 {
		return w.r.Intn(n+3) - 1
	}
	return w.r.Intn(max(n, 1))
}

func (w grower) list(length, n int) []int {
	var list []int
	for i := range length {
		if w.bound && w.r.Intn(8) > 0 {
			list = append(list, i)
			continue
		}
		list = append(list, w.some(n))
	}
	return list
}

func (w grower) head(main bool) api.Graph {
	places := w.r.Intn(8)
	if w.bound {
		places = 14 + w.r.Intn(9)
	}
	f := api.Graph{Cells: w.r.Intn(3), Keep: -1}
	for range places {
		f.Kinds = append(f.Kinds, api.Kind(w.r.Intn(2)))
	}
	if !main {
		f.Params = w.list(w.r.Intn(4), places)
		f.Result = w.r.Intn(2) == 0
	}
	for range f.Params {
		f.Init = append(f.Init, w.some(f.Cells+1)-1)
	}
	if w.r.Intn(2) == 0 {
		f.Keep = w.some(f.Cells+1) - 1
	}
	return f
}

func (w grower) node(g api.Graphs, f api.Graph) api.Node {
	places, cells, nodes := len(f.Kinds), f.Cells, len(f.Nodes)
	return api.Node{
		Op: api.NodeOp(1 + w.some(18)), By: api.Op(7 + w.some(14)),
		D: w.some(places+1) - w.r.Intn(2), E: w.some(places), A: w.some(places+1) - w.r.Intn(2), B: w.some(places),
		F: w.some(len(g.Funcs)), Cell: w.some(cells), Imm: w.r.Uint64(),
		Args: w.list(w.r.Intn(4), places), Next: w.some(nodes), Else: w.some(nodes),
	}
}

// program draws each node again while the second reading finds a fault in it.
func (w grower) program() api.Graphs {
	var g api.Graphs
	for i := range 1 + w.r.Intn(4) {
		f := w.head(i == 0)
		f.Nodes = make([]api.Node, 1+w.r.Intn(6))
		f.Entry = w.some(len(f.Nodes))
		g.Funcs = append(g.Funcs, f)
	}
	for _, f := range g.Funcs {
		for j := range f.Nodes {
			f.Nodes[j] = w.goodNode(g, f)
		}
	}
	return g
}

func (w grower) goodNode(g api.Graphs, f api.Graph) api.Node {
	r := &reader{g: g, bound: w.bound}
	r.heads()
	n := w.node(g, f)
	for range 60 {
		if r.fault != "" {
			break
		}
		trial := &reader{g: g, f: f, bound: w.bound}
		if trial.node(n); trial.fault == "" {
			break
		}
		n = w.node(g, f)
	}
	return n
}

// spoilOne changes one number of a program.
func (w grower) spoilOne(g *api.Graphs) {
	f := &g.Funcs[w.r.Intn(len(g.Funcs))]
	n := &f.Nodes[w.r.Intn(len(f.Nodes))]
	ints := []*int{
		&f.Cells, &f.Keep, &f.Entry,
		&n.D, &n.E, &n.A, &n.B, &n.F, &n.Cell, &n.Next, &n.Else,
	}
	for _, list := range [][]int{f.Params, f.Init, n.Args} {
		for i := range list {
			ints = append(ints, &list[i])
		}
	}
	switch i := w.r.Intn(len(ints) + 6); {
	case i < len(ints):
		*ints[i] += w.r.Intn(7) - 3
	case i == len(ints):
		n.Op = api.NodeOp(w.r.Intn(20))
	case i == len(ints)+1:
		n.By = api.Op(w.r.Intn(24))
	case i == len(ints)+2 && len(f.Kinds) > 0:
		f.Kinds[w.r.Intn(len(f.Kinds))] = api.Kind(w.r.Intn(3))
	case i == len(ints)+3 && len(n.Args) > 0:
		n.Args = n.Args[1:]
	case i == len(ints)+4:
		f.Result = !f.Result
	default:
		f.Kinds = f.Kinds[:len(f.Kinds)*w.r.Intn(5)/4]
	}
}

func TestP7_1RandomPrograms(t *testing.T) {
	for _, bound := range []bool{false, true} {
		w := grower{rand.New(rand.NewSource(7)), bound}
		const programs = 30_000
		valid := [2]int{}
		for range programs {
			g := w.program()
			for spoilt := range 2 {
				free, held := compare(t, g)
				valid[spoilt] += count(free && !bound || held && bound)
				w.spoilOne(&g)
			}
		}
		for spoilt, n := range valid {
			if n < programs/8 || n > programs*7/8 {
				t.Errorf("bound %v: of %d programs (changed %d times) %d are valid", bound, programs, spoilt, n)
			}
		}
	}
}

// What Next, Reads and Writes say of a valid program's nodes exists.
func TestP7_2OfValidPrograms(t *testing.T) {
	for _, bound := range []bool{false, true} {
		w := grower{rand.New(rand.NewSource(8)), bound}
		for range 4000 {
			g := w.program()
			if ir.Check(g, bound) != api.OK {
				continue
			}
			for _, f := range g.Funcs {
				for _, n := range f.Nodes {
					checkInside(t, "Next", ir.Next(n), len(f.Nodes))
					checkInside(t, "Reads", ir.Reads(n), len(f.Kinds))
					checkInside(t, "Writes", ir.Writes(n), len(f.Kinds))
				}
			}
		}
	}
}

// checkInside holds that the numbers are different ones below n.
func checkInside(t *testing.T, name string, list []int, n int) {
	t.Helper()
	for i, x := range list {
		if x < 0 || x >= n || slices.Contains(list[:i], x) {
			t.Errorf("%s returns %v; there are %d", name, list, n)
		}
	}
}

func TestP7_3RandomPrograms(t *testing.T) {
	w := grower{rand.New(rand.NewSource(9)), false}
	for range 3000 {
		g := w.program()
		c := ir.Copy(g)
		checkSame(t, "a copy", c, g, true)
		d := ir.Copy(g)
		w.spoilOne(&d)
		checkSame(t, "the copy and the original, another copy of which was changed", c, g, true)
		if faultOf(d, false) != faultOf(g, false) {
			checkSame(t, "a copy that was changed", d, g, false)
		}
	}
}

func FuzzCheck(f *testing.F) {
	for i := range int64(20) {
		f.Add(i, uint8(i))
	}
	f.Fuzz(func(t *testing.T, seed int64, changes uint8) {
		w := grower{rand.New(rand.NewSource(seed)), changes%2 == 1}
		g := w.program()
		for range changes / 2 {
			w.spoilOne(&g)
		}
		compare(t, g)
		checkSame(t, "a copy", ir.Copy(g), g, true)
	})
}

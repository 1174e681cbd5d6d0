package irun_test

import (
	"math"
	"slices"
	"strconv"
	"strings"
	"testing"

	"windlass/api"
	"windlass/ir"
	"windlass/irun"
	"windlass/samples"
	"windlass/trace"
)

// fuels around the bounds, and far beyond them.
var fuels = []int{math.MinInt, -1, 0, 1, 77, api.MaxFuel - 1, api.MaxFuel, api.MaxFuel + 1, math.MaxInt}

func isZero(r api.Result) bool {
	return len(r.Events) == 0 && r.End == api.End{} && numbersOf(r) == numbers{}
}

// checkFault holds what Run answers with each fuel, for graphs that are valid or not.
func checkFault(t *testing.T, name string, g api.Graphs, bound, valid bool) {
	t.Helper()
	if (ir.Check(g, bound) == api.OK) != valid {
		t.Errorf("%s, %s: layer 7 says %d", name, wayOf(bound), int(ir.Check(g, bound)))
	}
	for _, fuel := range fuels {
		want := api.OK
		if fuel < 0 || fuel > 1048576 {
			want = api.ErrArg
		}
		if !valid {
			want = api.ErrNode
		}
		r, e := irun.Run(g, bound, []uint64{1}, fuel)
		if e != want || (e != api.OK && !isZero(r)) {
			t.Errorf("%s, %s, with fuel %d: Run returns %s, %d; want %d", name, wayOf(bound), fuel, told(r), int(e), int(want))
		}
		if e == api.OK && r.End.Kind != api.NoFuel && r.End.Kind != api.Exited && r.End.Kind != api.Uncaught {
			t.Errorf("%s, %s, with fuel %d: %s", name, wayOf(bound), fuel, told(r))
		}
	}
}

// wholeText is a program that has all operations, and is valid in both ways.
const wholeText = "graph ptrs=1,21; const 0 5; addr 1 0; call 1 0 0 1; move 16 0; add 16 16 0; set 0 16; get 17 0; addr 21 1; load 18 21; store 21 18; branch 18 end; nop; end: recover 2 3; in 4; out 4; defer 2; ret -" +
	" | graph params=0,1 ptrs=1 init=2,- result keep=3; ret 0" +
	" | jump end; panic 2; exit 2; end: ret -"

// fault is a change of that program: of the first node with an operation, or of
// a graph.
type fault struct {
	name  string
	op    api.NodeOp
	node  func(n *api.Node)
	graph int
	head  func(f *api.Graph)
	valid ways // in which it is all the same
}

// noway is that of a fault which makes a program one that is valid in no way.
const noway ways = -1

func (x fault) holds(isBound bool) bool {
	return x.valid == both || x.valid == free && !isBound || x.valid == bound && isBound
}

func (x fault) apply(g *api.Graphs) {
	if x.head != nil {
		x.head(&g.Funcs[x.graph])
	}
	if x.node == nil {
		return
	}
	for i := range g.Funcs {
		for k := range g.Funcs[i].Nodes {
			if n := &g.Funcs[i].Nodes[k]; n.Op == x.op {
				x.node(n)
				return
			}
		}
	}
}

var headFaults = []fault{
	{name: "nothing", valid: both},
	{name: "the first graph has a parameter", head: func(f *api.Graph) { f.Params, f.Init = []int{0}, []int{-1} }, valid: noway},
	{name: "the first graph has a result", head: func(f *api.Graph) { f.Result = true; f.Nodes[len(f.Nodes)-1].A = 0 }, valid: noway},
	{name: "1025 kinds", graph: 2, head: func(f *api.Graph) { f.Kinds = make([]api.Kind, 1025) }, valid: noway},
	{name: "1024 kinds", graph: 2, head: func(f *api.Graph) { f.Kinds = make([]api.Kind, 1024) }, valid: both},
	{name: "16 kinds", graph: 2, head: func(f *api.Graph) { f.Kinds = make([]api.Kind, 16) }, valid: both},
	{name: "15 kinds", graph: 2, head: func(f *api.Graph) { f.Kinds = make([]api.Kind, 15) }, valid: free},
	{name: "a kind 2", graph: 2, head: func(f *api.Graph) { f.Kinds[20] = 2 }, valid: noway},
	{name: "five parameters", graph: 2, head: func(f *api.Graph) { f.Params, f.Init = []int{0, 1, 2, 3, 4}, []int{-1, -1, -1, -1, -1} }, valid: noway},
	{name: "parameters that are one", graph: 1, head: func(f *api.Graph) { f.Kinds[1], f.Params = 0, []int{1, 1} }, valid: noway},
	{name: "a parameter that does not exist", graph: 1, head: func(f *api.Graph) { f.Params = []int{24, 1} }, valid: noway},
	{name: "a parameter -1", graph: 1, head: func(f *api.Graph) { f.Params = []int{-1, 1} }, valid: noway},
	{name: "a parameter in another place", graph: 1, head: func(f *api.Graph) { f.Params = []int{5, 1} }, valid: free},
	{name: "less Init", graph: 1, head: func(f *api.Graph) { f.Init = []int{-1} }, valid: noway},
	{name: "more Init", graph: 1, head: func(f *api.Graph) { f.Init = []int{-1, -1, -1} }, valid: noway},
	{name: "an Init of -2", graph: 1, head: func(f *api.Graph) { f.Init[0] = -2 }, valid: noway},
	{name: "an Init of no cell", graph: 1, head: func(f *api.Graph) { f.Init[0] = 4 }, valid: noway},
	{name: "an Init of a pointer", graph: 1, head: func(f *api.Graph) { f.Init[1] = 0 }, valid: bound},
	{name: "-1 cells", graph: 2, head: func(f *api.Graph) { f.Cells = -1 }, valid: noway},
	{name: "0 cells", graph: 2, head: func(f *api.Graph) { f.Cells = 0 }, valid: both},
	{name: "65 cells", graph: 2, head: func(f *api.Graph) { f.Cells = 65 }, valid: noway},
	{name: "a Keep of -2", graph: 2, head: func(f *api.Graph) { f.Keep = -2 }, valid: noway},
	{name: "a Keep of no cell", graph: 2, head: func(f *api.Graph) { f.Keep = 4 }, valid: noway},
	{name: "no nodes", graph: 2, head: func(f *api.Graph) { f.Nodes = nil }, valid: noway},
	{name: "4097 nodes", graph: 2, head: func(f *api.Graph) { f.Nodes = slices.Repeat([]api.Node{{Op: api.NNop}}, 4097) }, valid: noway},
	{name: "4096 nodes", graph: 2, head: func(f *api.Graph) { f.Nodes = slices.Repeat([]api.Node{{Op: api.NNop}}, 4096) }, valid: both},
	{name: "an Entry of -1", graph: 2, head: func(f *api.Graph) { f.Entry = -1 }, valid: noway},
	{name: "an Entry of no node", graph: 2, head: func(f *api.Graph) { f.Entry = 4 }, valid: noway},
	{name: "NPanic without Next", op: api.NPanic, node: func(n *api.Node) { n.Next = 99 }, valid: both},
	{name: "NCall that takes nothing", op: api.NCall, node: func(n *api.Node) { n.D = -1 }, valid: both},
	{name: "NCall with D -2", op: api.NCall, node: func(n *api.Node) { n.D = -2 }, valid: noway},
	{name: "NCall with another D", op: api.NCall, node: func(n *api.Node) { n.D = 4 }, valid: free},
	{name: "NCall that takes what is not there", op: api.NCall, node: func(n *api.Node) { n.F, n.Args = 2, nil }, valid: noway},
	{name: "NCall with less Args", op: api.NCall, node: func(n *api.Node) { n.Args = n.Args[:1] }, valid: noway},
	{name: "NCall with more Args", op: api.NCall, node: func(n *api.Node) { n.Args = []int{0, 1, 2} }, valid: noway},
	{name: "NCall with other Args", op: api.NCall, node: func(n *api.Node) { n.Args = []int{2, 1} }, valid: free},
	{name: "NCall with Args of other kinds", op: api.NCall, node: func(n *api.Node) { n.Args = []int{1, 0} }, valid: noway},
	{name: "NCall with an Arg of no place", op: api.NCall, node: func(n *api.Node) { n.Args = []int{24, 1} }, valid: noway},
	{name: "NCall of a pointer", op: api.NCall, node: func(n *api.Node) { n.D = 1 }, valid: noway},
	{name: "NDefer with Args", op: api.NDefer, node: func(n *api.Node) { n.Args = []int{0} }, valid: noway},
	{name: "NDefer with less Args", op: api.NDefer, node: func(n *api.Node) { n.F, n.Args = 1, []int{0} }, valid: noway},
	{name: "NDefer with other Args", op: api.NDefer, node: func(n *api.Node) { n.F, n.Args = 1, []int{2, 21} }, valid: free},
	{name: "NRet without a number", graph: 1, head: func(f *api.Graph) { f.Nodes[0].A = -1 }, valid: noway},
	{name: "NRet of a pointer", graph: 1, head: func(f *api.Graph) { f.Nodes[0].A = 1 }, valid: bound},
	{name: "NRet of no place", graph: 1, head: func(f *api.Graph) { f.Nodes[0].A = 24 }, valid: noway},
	{name: "NRet with a number for no result", op: api.NRet, node: func(n *api.Node) { n.A = 0 }, valid: noway},
	{name: "NRecover with one place", op: api.NRecover, node: func(n *api.Node) { n.E = n.D }, valid: noway},
	{name: "NBin by const", op: api.NBin, node: func(n *api.Node) { n.By = api.Const }, valid: noway},
	{name: "NBin by store", op: api.NBin, node: func(n *api.Node) { n.By = api.Add - 1 }, valid: noway},
	{name: "NBin by jump", op: api.NBin, node: func(n *api.Node) { n.By = api.Below + 1 }, valid: noway},
}

// nodeFaults are those that all operations have which use a field: what it names
// does not exist, or is of the other kind.
func nodeFaults() []fault {
	list := []fault{
		{name: "an operation 0", op: api.NNop, node: func(n *api.Node) { n.Op = 0 }, valid: noway},
		{name: "an operation 19", op: api.NNop, node: func(n *api.Node) { n.Op = 19 }, valid: noway},
		{name: "an operation 255", op: api.NNop, node: func(n *api.Node) { n.Op = 255 }, valid: noway},
	}
	fields := map[string]func(n *api.Node) *int{
		"D": func(n *api.Node) *int { return &n.D }, "E": func(n *api.Node) *int { return &n.E },
		"A": func(n *api.Node) *int { return &n.A }, "B": func(n *api.Node) *int { return &n.B },
		"F": func(n *api.Node) *int { return &n.F }, "Cell": func(n *api.Node) *int { return &n.Cell },
		"Next": next, "Else": elsewhere,
	}
	for op, uses := range map[api.NodeOp]string{
		api.NConst: "D Next", api.NMove: "D A Next", api.NBin: "D A B Next", api.NCellGet: "D Cell Next",
		api.NCellSet: "Cell A Next", api.NAddr: "D Cell Next", api.NLoad: "D A Next", api.NStore: "A B Next",
		api.NBranch: "A Next Else", api.NNop: "Next", api.NCall: "F Next", api.NDefer: "F Next",
		api.NPanic: "A", api.NRecover: "D E Next", api.NIn: "D Next", api.NOut: "A Next", api.NExit: "A",
	} {
		for _, name := range strings.Fields(uses) {
			field := fields[name]
			for _, v := range []int{-1, -2, 24, 1024, math.MaxInt, math.MinInt} {
				list = append(list, fault{name: "operation " + strconv.Itoa(int(op)) + " with " + name + " of " + strconv.Itoa(v), op: op, node: func(n *api.Node) { *field(n) = v }, valid: noway})
			}
			if strings.Contains("DEAB", name) {
				list = append(list, fault{name: "operation " + strconv.Itoa(int(op)) + " with " + name + " of another kind", op: op, node: func(n *api.Node) { otherKind(field(n)) }, valid: bound})
			}
		}
	}
	return list
}

// otherKind makes a place of the first graph one of the other kind.
func otherKind(place *int) {
	if *place == 1 || *place == 21 {
		*place = 23
		return
	}
	*place = 21
}

func TestP8_1ErrNode(t *testing.T) {
	for _, x := range append(slices.Clone(headFaults), nodeFaults()...) {
		for _, bound := range []bool{false, true} {
			g := program(t, wholeText)
			if x.op == api.NPanic || x.op == api.NExit {
				g.Funcs[2].Kinds[21] = api.Ptr
			}
			x.apply(&g)
			checkFault(t, x.name, g, bound, x.holds(bound))
		}
	}
	one := program(t, "ret -").Funcs[0]
	for _, n := range []int{0, 1, 16, 17, 100} {
		g := api.Graphs{Funcs: slices.Repeat([]api.Graph{one}, n)}
		checkFault(t, strconv.Itoa(n)+" graphs", g, false, n == 1 || n == 16)
		checkFault(t, strconv.Itoa(n)+" graphs", g, true, n == 1 || n == 16)
	}
	checkFault(t, "a graph of zeros", api.Graphs{Funcs: make([]api.Graph, 1)}, false, false)
	least := api.Graphs{Funcs: []api.Graph{{Keep: -1, Nodes: []api.Node{{Op: api.NRet, A: -1}}}}}
	checkFault(t, "a graph without places", least, false, true)
	checkFault(t, "a graph without places", least, true, false)
}

func TestP8_1ErrArg(t *testing.T) {
	for _, s := range []string{"top: jump top", "const 0 7; out 0; ret -", "const 0 1; panic 0", "call 0 -; ret -"} {
		checkFault(t, s, program(t, s), false, true)
		checkFault(t, s, program(t, s), true, true)
	}
}

func TestP8_1Fuel(t *testing.T) {
	for _, x := range []struct {
		s    string
		fuel int
		want string
	}{
		{"const 0 7; out 0; ret -", 0, "fuel 0 1 0 0"},
		{"const 0 7; out 0; ret -", 1, "fuel 1 1 0 0"},
		{"const 0 7; out 0; ret -", 2, "out=7 fuel 2 1 0 0"},
		{"const 0 7; out 0; ret -", 3, "out=7 exit=0 3 1 0 0"},
		{"const 0 7; out 0; ret -", 4, "out=7 exit=0 3 1 0 0"},
		{"const 0 7; out 0; ret -", api.MaxFuel, "out=7 exit=0 3 1 0 0"},
		{"const 0 7; exit 0", 1, "fuel 1 1 0 0"},
		{"const 0 7; exit 0", 2, "exit=7 2 1 0 0"},
		{"const 0 7; panic 0", 1, "fuel 1 1 0 0"},
		{"const 0 7; panic 0", 2, "panic=7 2 1 0 1"},
		{"defer 1; const 0 7; panic 0 | in 0; ret -", 3, "fuel 3 2 1 1"},
		{"defer 1; const 0 7; panic 0 | in 0; ret -", 4, "in=4 fuel 4 2 1 1"},
		{"defer 1; const 0 7; panic 0 | in 0; ret -", 5, "in=4 panic=7 5 2 1 1"},
		{"call 0 -; ret -", 0, "fuel 0 1 0 0"},
		{"call 0 -; ret -", 1, "fuel 1 2 0 0"},
		{"defer 0; ret -", 2, "fuel 2 2 1 0"},
		{"top: jump top", api.MaxFuel, "fuel 1048576 1 0 0"},
		{"call 0 -; ret -", api.MaxFuel, "fuel 1048576 1048577 0 0"},
		{"top: defer 0; jump top", api.MaxFuel, "fuel 1048576 1 524288 0"},
		{"defer 1; fail 1 | defer 1; fail 1", api.MaxFuel, "fuel 1048576 349526 1 349525"},
	} {
		for _, bound := range []bool{false, true} {
			if got := told(run(t, program(t, x.s), bound, []uint64{4}, x.fuel)); got != x.want {
				t.Errorf("%q with fuel %d, %s: %s; want %s", x.s, x.fuel, wayOf(bound), got, x.want)
			}
		}
	}
}

// TestP8_1Deep: a single step lets many frames end, or a panic through them.
func TestP8_1Deep(t *testing.T) {
	const down = "graph params=0; branch 0 end; const 1 1; sub 0 0 1; "
	for _, x := range []struct{ s, want string }{
		{"in 0; call 1 - 0; ret - | " + down + "call 1 - 0; end: ret -", "in=100000 exit=0 500005 100002 0 0"},
		{"in 0; call 1 - 0; ret - | " + down + "call 1 - 0; ret -; end: fail 9", "in=100000 panic=9 400005 100002 0 1"},
		{"in 0; defer 1 0; ret - | " + down + "defer 1 0; end: ret -", "in=100000 exit=0 500005 100002 1 0"},
		{"in 0; defer 1 0; fail 1 | " + down + "defer 1 0; end: panic 0", "in=100000 panic=0 500006 100002 1 100002"},
		{"in 0; call 1 - 0; tell 8; ret - | graph params=0; defer 2; call 3 - 0; ret -" + quiet + " | " + down + "call 3 - 0; ret -; end: fail 9", "in=100000 out=8 exit=0 400012 100003 1 1"},
		{"in 0; const 1 1; top: branch 0 end; defer 1; sub 0 0 1; jump top; end: ret - | ret -", "in=100000 exit=0 500004 2 100000 0"},
		{"graph ptrs=1; in 0; addr 1 3; call 1 - 0 1; get 16 3; out 16; ret - | graph params=0,1 ptrs=1; branch 0 end; const 2 1; sub 0 0 2; call 1 - 0 1; ret -; end: const 2 8; store 1 2; ret -", "in=100000 out=8 exit=0 500010 100002 0 0"},
	} {
		for _, bound := range []bool{false, true} {
			if got := told(run(t, program(t, x.s), bound, []uint64{100000}, api.MaxFuel)); got != x.want {
				t.Errorf("%q, %s: %s; want %s", x.s, wayOf(bound), got, x.want)
			}
		}
	}
}

// TestP8_1ManyPlaces: a million frames with all the places and cells that there
// may be, of which they write some.
func TestP8_1ManyPlaces(t *testing.T) {
	for _, bound := range []bool{false, true} {
		g := program(t, "graph places=1024 cells=64; const 1023 5; const 500 6; set 63 1023; call 0 -; ret -")
		if got := told(run(t, g, bound, nil, api.MaxFuel)); got != "fuel 1048576 262145 0 0" {
			t.Errorf("%s: %s", wayOf(bound), got)
		}
		g = program(t, "graph places=1024 cells=64; call 0 -; ret -")
		if got := told(run(t, g, bound, nil, api.MaxFuel)); got != "fuel 1048576 1048577 0 0" {
			t.Errorf("%s: %s", wayOf(bound), got)
		}
	}
}

func all[T any](list []T) []T { return list[:cap(list)] }

// TestP8_1Arguments: nothing of them is changed, nor what lies behind them.
func TestP8_1Arguments(t *testing.T) {
	for _, x := range allExamples() {
		for _, bound := range x.in.list() {
			g := samples.RoomyGraphs(program(t, x.graphs))
			tape := samples.Room(x.tape, 77)
			whole, wholeTape := samples.WhollyGraphs(g), slices.Clone(all(tape))
			first := run(t, g, bound, tape, plenty)
			if !ir.Same(whole, samples.WhollyGraphs(g)) || !slices.Equal(wholeTape, all(tape)) {
				t.Fatalf("%q: an argument is changed", x.graphs)
			}
			events := slices.Clone(first.Events)
			second := run(t, g, bound, tape, plenty)
			if !sameResult(first, second) {
				t.Errorf("%q, %s: %s, and then %s", x.graphs, wayOf(bound), told(first), told(second))
			}
			spoil(all(second.Events), api.Event{Kind: 99, Value: 99})
			spoil(all(tape), 99)
			if !slices.Equal(first.Events, events) {
				t.Errorf("%q: two results share memory, or one the tape's", x.graphs)
			}
		}
	}
}

func spoil[T any](list []T, mark T) {
	for i := range list {
		list[i] = mark
	}
}

// ladder holds P8.2: a run with each fuel up to top against the one with top.
func ladder(t testing.TB, name string, g api.Graphs, bound bool, tape []uint64, top int) {
	t.Helper()
	long := run(t, g, bound, tape, top)
	ended := trace.Ended(long.End)
	if !ended && (long.End != api.End{Kind: api.NoFuel} || long.Steps != top) {
		t.Errorf("%s, %s, with fuel %d: %s", name, wayOf(bound), top, told(long))
	}
	var before api.Result
	for fuel := range top {
		r := run(t, g, bound, tape, fuel)
		if ended && fuel >= long.Steps {
			if !sameResult(r, long) {
				t.Errorf("%s, %s: with fuel %d %s; with fuel %d %s", name, wayOf(bound), fuel, told(r), top, told(long))
			}
			continue
		}
		if (r.End != api.End{Kind: api.NoFuel}) || r.Steps != fuel {
			t.Errorf("%s, %s, with fuel %d: %s, but with fuel %d %s", name, wayOf(bound), fuel, told(r), top, told(long))
		}
		if !trace.Prefix(r.Events, long.Events) || !trace.Prefix(before.Events, r.Events) || len(r.Events) > len(before.Events)+1 {
			t.Errorf("%s, %s, with fuel %d: %s; with fuel %d: %s", name, wayOf(bound), fuel, told(r), top, told(long))
		}
		if !within(before, r) || !within(r, long) {
			t.Errorf("%s, %s, with fuel %d: %s; with one less: %s", name, wayOf(bound), fuel, told(r), told(before))
		}
		before = r
	}
}

// within reports whether the greatest numbers of a are no greater than those of b.
func within(a, b api.Result) bool {
	return a.Depth <= b.Depth && a.Defers <= b.Defers && a.Panics <= b.Panics
}

func TestP8_2Examples(t *testing.T) {
	for _, x := range allExamples() {
		g := program(t, x.graphs)
		for _, bound := range x.in.list() {
			short := run(t, g, bound, x.tape, 300)
			ladder(t, x.graphs, g, bound, x.tape, short.Steps+3)
			r := run(t, g, bound, x.tape, plenty)
			if trace.Ended(short.End) && !sameResult(r, short) || r.Steps < plenty && !sameResult(r, run(t, g, bound, x.tape, api.MaxFuel)) {
				t.Errorf("%q, %s: with more fuel it is another run than %s", x.graphs, wayOf(bound), told(r))
			}
		}
	}
}

// TestP8_2Endless: graphs that never end go on with what they do.
func TestP8_2Endless(t *testing.T) {
	for _, s := range []string{
		"top: jump top",
		"top: nop; nop; jump top",
		"top: tell 1; jump top",
		"top: in 1; out 1; jump top",
		"top: branch 0 top; ret -",
		"call 0 -; ret -",
		"tell 3; call 0 -; ret -",
		"defer 0; ret -",
		"tell 3; defer 0; ret -",
		"top: defer 1; in 1; jump top | ret -",
		"top: call 1 -; jump top | defer 2; fail 5" + catches,
		"defer 1; fail 1 | tell 2; defer 1; fail 2",
		"defer 1; ret - | recover 1 2; out 2; out 1; defer 1; fail 2",
		"defer 1; fail 1 | recover 1 2; out 2; out 1; call 0 -; ret -",
	} {
		g := program(t, s)
		tape := []uint64{5, 6, 7}
		for _, bound := range []bool{false, true} {
			ladder(t, s, g, bound, tape, 300)
			r := run(t, g, bound, tape, api.MaxFuel)
			if r.End != (api.End{Kind: api.NoFuel}) || r.Steps != api.MaxFuel || !trace.Prefix(run(t, g, bound, tape, 300).Events, r.Events) {
				t.Errorf("%q, %s, ends after %d steps: %v", s, wayOf(bound), r.Steps, r.End)
			}
		}
	}
	g := program(t, "top: tell 1; jump top")
	if n := len(run(t, g, true, nil, api.MaxFuel).Events); n != (api.MaxFuel+1)/3 {
		t.Errorf("%d numbers are told", n)
	}
}

package ir_test

import (
	"math"
	"reflect"
	"slices"
	"testing"

	"windlass/api"
	"windlass/ir"
)

// ops are the operations, and how each one is told.
func ops() map[api.NodeOp]string {
	return map[api.NodeOp]string{
		api.NConst: "NConst", api.NMove: "NMove", api.NBin: "NBin", api.NCellGet: "NCellGet",
		api.NCellSet: "NCellSet", api.NAddr: "NAddr", api.NLoad: "NLoad", api.NStore: "NStore",
		api.NBranch: "NBranch", api.NNop: "NNop", api.NCall: "NCall", api.NRet: "NRet",
		api.NDefer: "NDefer", api.NPanic: "NPanic", api.NRecover: "NRecover", api.NIn: "NIn",
		api.NOut: "NOut", api.NExit: "NExit",
	}
}

// full is a node each of whose fields has a number of its own, so that it is
// seen which of them an answer is made of.
func full(op api.NodeOp) api.Node {
	return api.Node{
		Op: op, By: api.Add, D: 40, E: 30, A: 20, B: 10, F: 1, Cell: 2, Imm: 3,
		Args: []int{7, 5, 6}, Next: 9, Else: 8,
	}
}

type answers struct{ next, reads, writes []int }

// ofFull is what Next, Reads and Writes return of a full node.
func ofFull() map[api.NodeOp]answers {
	on := []int{9}
	return map[api.NodeOp]answers{
		api.NConst:   {on, nil, []int{40}},
		api.NMove:    {on, []int{20}, []int{40}},
		api.NBin:     {on, []int{20, 10}, []int{40}},
		api.NCellGet: {on, nil, []int{40}},
		api.NCellSet: {on, []int{20}, nil},
		api.NAddr:    {on, nil, []int{40}},
		api.NLoad:    {on, []int{20}, []int{40}},
		api.NStore:   {on, []int{20, 10}, nil},
		api.NBranch:  {[]int{9, 8}, []int{20}, nil},
		api.NNop:     {on, nil, nil},
		api.NCall:    {on, []int{7, 5, 6}, []int{40}},
		api.NRet:     {nil, []int{20}, nil},
		api.NDefer:   {on, []int{7, 5, 6}, nil},
		api.NPanic:   {nil, []int{20}, nil},
		api.NRecover: {on, nil, []int{40, 30}},
		api.NIn:      {on, nil, []int{40}},
		api.NOut:     {on, []int{20}, nil},
		api.NExit:    {nil, []int{20}, nil},
	}
}

func checkNode(t *testing.T, name string, n api.Node, want answers) {
	t.Helper()
	got := answers{ir.Next(n), ir.Reads(n), ir.Writes(n)}
	if !slices.Equal(got.next, want.next) {
		t.Errorf("%s: Next returns %v; want %v", name, got.next, want.next)
	}
	if !slices.Equal(got.reads, want.reads) {
		t.Errorf("%s: Reads returns %v; want %v", name, got.reads, want.reads)
	}
	if !slices.Equal(got.writes, want.writes) {
		t.Errorf("%s: Writes returns %v; want %v", name, got.writes, want.writes)
	}
}

func TestP7_2Examples(t *testing.T) {
	checkNode(t, "a store of a place to itself", api.Node{Op: api.NStore, A: 1, B: 1, Next: 4},
		answers{[]int{4}, []int{1}, nil})
	checkNode(t, "a call with a place twice", api.Node{Op: api.NCall, D: 2, Args: []int{3, 3, 4}},
		answers{[]int{0}, []int{3, 4}, []int{2}})
}

func TestP7_2Operations(t *testing.T) {
	want := ofFull()
	if len(want) != len(ops()) {
		t.Fatalf("%d operations are tested; want %d", len(want), len(ops()))
	}
	for op, name := range ops() {
		checkNode(t, name, full(op), want[op])
	}
}

func TestP7_2NoOperation(t *testing.T) {
	for op := range 256 {
		if _, exists := ops()[api.NodeOp(op)]; !exists {
			checkNode(t, "an operation that does not exist", full(api.NodeOp(op)), answers{})
		}
	}
}

func TestP7_2Equal(t *testing.T) {
	for op, name := range ops() {
		n := api.Node{Op: op, By: api.Add, D: 3, E: 3, A: 3, B: 3, Args: []int{3, 3, 3}, Next: 6, Else: 6}
		want := ofFull()[op]
		want.next = want.next[:min(len(want.next), 1)]
		want.reads = want.reads[:min(len(want.reads), 1)]
		want.writes = want.writes[:min(len(want.writes), 1)]
		for _, list := range [][]int{want.reads, want.writes} {
			for i := range list {
				list[i] = 3
			}
		}
		for i := range want.next {
			want.next[i] = 6
		}
		checkNode(t, name+" of equal places", n, want)
	}
}

func TestP7_2Negative(t *testing.T) {
	for op, name := range ops() {
		want := answers{next: ofFull()[op].next}
		n := full(op)
		n.D, n.E, n.A, n.B, n.Args = -1, -2, -3, math.MinInt, []int{-1, -1, math.MinInt}
		checkNode(t, name+" of negative places", n, want)
	}
	checkNode(t, "NRet without a number", api.Node{Op: api.NRet, A: -1}, answers{})
	list := []struct {
		name          string
		n             api.Node
		reads, writes []int
	}{
		{"A of NBin", api.Node{Op: api.NBin, D: 1, A: -1, B: 2}, []int{2}, []int{1}},
		{"B of NBin", api.Node{Op: api.NBin, D: 1, A: 2, B: -1}, []int{2}, []int{1}},
		{"A of NStore", api.Node{Op: api.NStore, A: -1, B: 2}, []int{2}, nil},
		{"B of NStore", api.Node{Op: api.NStore, A: 2, B: -9}, []int{2}, nil},
		{"D of NRecover", api.Node{Op: api.NRecover, D: -1, E: 0}, nil, []int{0}},
		{"E of NRecover", api.Node{Op: api.NRecover, D: 0, E: -1}, nil, []int{0}},
		{"D of NCall", api.Node{Op: api.NCall, D: -1, Args: []int{0}}, []int{0}, nil},
		{"Args", api.Node{Op: api.NDefer, Args: []int{-1, 4, -1, 0, -2, 4, 1}}, []int{4, 0, 1}, nil},
	}
	for _, x := range list {
		checkNode(t, x.name, x.n, answers{[]int{0}, x.reads, x.writes})
	}
}

// What a node needs in order to be valid is not asked of it here.
func TestP7_2NotValid(t *testing.T) {
	checkNode(t, "NBin by none", api.Node{Op: api.NBin, D: 5, A: 6, B: 7, Next: 1},
		answers{[]int{1}, []int{6, 7}, []int{5}})
	great := math.MaxInt
	checkNode(t, "great places", api.Node{Op: api.NMove, D: great, A: great - 1, Next: great},
		answers{[]int{great}, []int{great - 1}, []int{great}})
	checkNode(t, "negative nodes", api.Node{Op: api.NBranch, A: 0, Next: -4, Else: -1},
		answers{[]int{-4, -1}, []int{0}, nil})
	checkNode(t, "the zero NRecover", api.Node{Op: api.NRecover}, answers{[]int{0}, nil, []int{0}})
}

func TestP7_2LongArgs(t *testing.T) {
	const different = 200_000
	n := api.Node{Op: api.NCall, D: -1}
	var want []int
	for i := range different {
		p := i * 7 % different
		n.Args = append(n.Args, p, -i-1, p)
		want = append(want, p)
	}
	for i := range different {
		n.Args = append(n.Args, i)
	}
	if !slices.Equal(ir.Reads(n), want) {
		t.Errorf("Reads of a call with many places returns other ones")
	}
}

// spoil writes over a list and its spare capacity.
func spoil(list []int) {
	list = list[:cap(list)]
	for i := range list {
		list[i] = -77
	}
}

func TestP7_2Memory(t *testing.T) {
	for op, name := range ops() {
		args := []int{7, 5, 6, 100, 101}
		n := full(op)
		n.Args = args[:3]
		for range 2 {
			spoil(ir.Next(n))
			spoil(ir.Reads(n))
			spoil(ir.Writes(n))
			if !slices.Equal(args, []int{7, 5, 6, 100, 101}) {
				t.Fatalf("%s: the node's Args and what is behind them are %v", name, args)
			}
			checkNode(t, name+" after its answers were written over", n, ofFull()[op])
		}
	}
}

// sample is a program of graphs that is not valid, each of whose fields has
// something in it.
func sample() api.Graphs {
	var g api.Graphs
	for i := range 3 {
		f := api.Graph{
			Params: []int{1 + i, 0}, Kinds: []api.Kind{1, 0, 1}, Cells: 4 + i, Init: []int{-1, 2 + i},
			Result: i != 1, Keep: 3 + i, Entry: 1 + i,
		}
		for j := range 2 + i {
			n := full(api.NConst + api.NodeOp(3*i+j))
			n.Args = []int{10*i + j, 5}
			f.Nodes = append(f.Nodes, n)
		}
		g.Funcs = append(g.Funcs, f)
	}
	return g
}

func checkSame(t *testing.T, name string, a, b api.Graphs, want bool) {
	t.Helper()
	if got := ir.Same(a, b); got != want {
		t.Errorf("%s: Same returns %v; want %v", name, got, want)
	}
	if got := ir.Same(b, a); got != want {
		t.Errorf("%s: Same of them exchanged returns %v; want %v", name, got, want)
	}
}

func TestP7_3Same(t *testing.T) {
	checkSame(t, "two samples", sample(), sample(), true)
	checkSame(t, "no graphs", api.Graphs{}, api.Graphs{}, true)
	checkSame(t, "one graph and none", api.Graphs{Funcs: make([]api.Graph, 1)}, api.Graphs{}, false)
	checkSame(t, "zero graphs", api.Graphs{Funcs: make([]api.Graph, 2)}, api.Graphs{Funcs: make([]api.Graph, 2)}, true)
	g := sample()
	checkSame(t, "a sample and itself", g, g, true)
}

// differ changes what v holds in each way in which one field of it differs; each
// time it calls then, and afterwards changes it back.
func differ(path string, v reflect.Value, then func(path string)) {
	old := reflect.New(v.Type()).Elem()
	old.Set(v)
	changed := func(how string) {
		then(path + how)
		v.Set(old)
	}
	switch v.Kind() {
	case reflect.Struct:
		for i := range v.NumField() {
			differ(path+"."+v.Type().Field(i).Name, v.Field(i), then)
		}
	case reflect.Slice:
		for i := range v.Len() {
			differ(path+"[]", v.Index(i), then)
		}
		v.Set(reflect.AppendSlice(reflect.Zero(v.Type()), v).Slice(0, v.Len()-1))
		changed(" without its last one")
		v.Set(v.Slice(1, v.Len()))
		changed(" without its first one")
		v.SetZero()
		changed(" nil")
		v.Set(reflect.Append(reflect.AppendSlice(reflect.Zero(v.Type()), v), v.Index(0)))
		changed(" with one more")
		v.Set(reflect.Append(reflect.AppendSlice(reflect.Zero(v.Type()), v), reflect.Zero(v.Type().Elem())))
		changed(" with a zero more")
	case reflect.Bool:
		v.SetBool(!v.Bool())
		changed("")
	case reflect.Int:
		for _, other := range []int64{v.Int() + 1, v.Int() - 1, ^v.Int(), v.Int() + 1<<32, math.MinInt, math.MaxInt} {
			v.SetInt(other)
			changed("")
		}
	case reflect.Uint8:
		v.SetUint(v.Uint() ^ 1)
		changed("")
		v.SetUint(v.Uint() + 128)
		changed("")
	case reflect.Uint64:
		for bit := range 64 {
			v.SetUint(v.Uint() ^ 1<<bit)
			changed("")
		}
	default:
		panic("a field of another kind: " + path)
	}
}

func TestP7_3OneFieldDiffers(t *testing.T) {
	g, other := sample(), sample()
	paths := map[string]int{}
	differ("", reflect.ValueOf(&other).Elem(), func(path string) {
		paths[path]++
		checkSame(t, path, g, other, false)
	})
	checkSame(t, "all changed back", g, other, true)
	if len(paths) < 49 {
		t.Errorf("only %d kinds of differences were tried: %v", len(paths), paths)
	}
}

func TestP7_3OrderDiffers(t *testing.T) {
	a := sample()
	changes := map[string]func(g api.Graphs){
		"graphs": func(g api.Graphs) { slices.Reverse(g.Funcs) },
		"nodes":  func(g api.Graphs) { slices.Reverse(g.Funcs[1].Nodes) },
		"params": func(g api.Graphs) { slices.Reverse(g.Funcs[2].Params) },
		"init":   func(g api.Graphs) { slices.Reverse(g.Funcs[0].Init) },
		"args":   func(g api.Graphs) { slices.Reverse(g.Funcs[0].Nodes[0].Args) },
		"kinds":  func(g api.Graphs) { k := g.Funcs[0].Kinds; k[0], k[1] = k[1], k[0] },
	}
	for name, change := range changes {
		b := sample()
		change(b)
		checkSame(t, name+" in another order", a, b, false)
	}
}

// emptied has lists that are empty, but not nil.
func emptied() api.Graphs {
	return api.Graphs{Funcs: []api.Graph{
		{Params: []int{}, Kinds: []api.Kind{}, Init: []int{}, Nodes: []api.Node{}},
		{Params: make([]int, 0, 4), Nodes: []api.Node{{Args: []int{}}, {Args: make([]int, 0, 2)}, {}}},
	}}
}

func TestP7_3NilAndEmpty(t *testing.T) {
	nils := api.Graphs{Funcs: []api.Graph{{}, {Nodes: make([]api.Node, 3)}}}
	checkSame(t, "nil and empty lists", emptied(), nils, true)
	checkSame(t, "nil and empty programs", api.Graphs{}, api.Graphs{Funcs: []api.Graph{}}, true)
	for _, g := range []api.Graphs{emptied(), nils, {}, {Funcs: []api.Graph{}}} {
		checkSame(t, "a copy of them", ir.Copy(g), g, true)
	}
}

func TestP7_3Copy(t *testing.T) {
	for _, g := range []api.Graphs{sample(), everything(), {Funcs: make([]api.Graph, 20)}} {
		before := ir.Copy(g)
		checkSame(t, "a copy", ir.Copy(g), g, true)
		if c := ir.Copy(g); !reflect.DeepEqual(withoutEmpty(c), withoutEmpty(g)) {
			t.Errorf("Copy returns %v; want %v", c, g)
		}
		checkSame(t, "what was copied", g, before, true)
	}
}

// withoutEmpty makes all empty lists nil.
func withoutEmpty(g api.Graphs) api.Graphs {
	funcs := slices.Clone(g.Funcs)
	for i := range funcs {
		f := &funcs[i]
		f.Nodes = slices.Clone(f.Nodes)
		for j := range f.Nodes {
			f.Nodes[j].Args = nilIfEmpty(f.Nodes[j].Args)
		}
		f.Params, f.Init = nilIfEmpty(f.Params), nilIfEmpty(f.Init)
		f.Kinds, f.Nodes = nilIfEmpty(f.Kinds), nilIfEmpty(f.Nodes)
	}
	return api.Graphs{Funcs: nilIfEmpty(funcs)}
}

func nilIfEmpty[T any](list []T) []T {
	if len(list) == 0 {
		return nil
	}
	return list
}

func TestP7_3CopyIsApart(t *testing.T) {
	g := sample()
	c := ir.Copy(g)
	differ("", reflect.ValueOf(&c).Elem(), func(path string) {
		checkSame(t, "the original, the copy differs at "+path, g, sample(), true)
	})
	differ("", reflect.ValueOf(&g).Elem(), func(path string) {
		checkSame(t, "the copy, the original differs at "+path, c, sample(), true)
	})
}

// list is one of a program's lists, or the room behind one of them.
type list struct {
	name string
	fill func(v int)
}

func lists(g api.Graphs) []list {
	var all []list
	add := func(name string, fill func(v int)) { all = append(all, list{name, fill}) }
	for _, f := range g.Funcs {
		add("Params", filler(f.Params))
		add("Init", filler(f.Init))
		add("Kinds", filler(f.Kinds))
		for _, n := range f.Nodes {
			add("Args", filler(n.Args))
		}
		add("what is behind the nodes", func(v int) {
			for i := range f.Nodes[len(f.Nodes):cap(f.Nodes)] {
				f.Nodes[:cap(f.Nodes)][len(f.Nodes)+i].D = v
			}
		})
	}
	add("what is behind the graphs", func(v int) {
		for i := range g.Funcs[len(g.Funcs):cap(g.Funcs)] {
			g.Funcs[:cap(g.Funcs)][len(g.Funcs)+i].Keep = v
		}
	})
	return all
}

func filler[T int | api.Kind](of []T) func(v int) {
	of = of[:cap(of)]
	return func(v int) {
		for i := range of {
			of[i] = T(v)
		}
	}
}

// roomy is the sample with lists that have spare capacity, in which there is
// something, and which lie behind one another.
func roomy() api.Graphs {
	g := sample()
	room := make([]int, 0, 1000)
	lay := func(list []int) []int {
		from := len(room)
		room = append(room, list...)
		end := len(room)
		room = append(room, 55, 56)
		return room[from:end]
	}
	for i := range g.Funcs {
		f := &g.Funcs[i]
		f.Params, f.Init = lay(f.Params), lay(f.Init)
		for j := range f.Nodes {
			f.Nodes[j].Args = lay(f.Nodes[j].Args)
		}
	}
	return g
}

func TestP7_3CopyMemory(t *testing.T) {
	g := roomy()
	room := g.Funcs[0].Params[:cap(g.Funcs[0].Params)]
	before := slices.Clone(room)
	want := sample()
	for i := range lists(want) {
		c := ir.Copy(g)
		l := lists(c)[i]
		l.fill(99)
		if !slices.Equal(room, before) {
			t.Fatalf("%s of the copy is written over: the original changes", l.name)
		}
		checkSame(t, "the original, after "+l.name+" of the copy was written over", g, want, true)
		changed := 0
		for j := range c.Funcs {
			changed += differences(c.Funcs[j], want.Funcs[j])
		}
		if changed > 1 {
			t.Errorf("%s of the copy is written over: %d lists of the copy change", l.name, changed)
		}
	}
}

// differences are how many of two graphs' lists, and of their nodes' lists, are
// not equal.
func differences(a, b api.Graph) int {
	n := 0
	count := func(same bool) {
		if !same {
			n++
		}
	}
	count(slices.Equal(a.Params, b.Params))
	count(slices.Equal(a.Init, b.Init))
	count(slices.Equal(a.Kinds, b.Kinds))
	for i := range a.Nodes {
		count(slices.Equal(a.Nodes[i].Args, b.Nodes[i].Args))
	}
	return n
}

func TestP7_3ArgumentsAreKept(t *testing.T) {
	g, h := roomy(), roomy()
	room := g.Funcs[0].Params[:cap(g.Funcs[0].Params)]
	before := slices.Clone(room)
	ir.Same(g, h)
	for _, bound := range []bool{false, true} {
		ir.Check(g, bound)
	}
	if !slices.Equal(room, before) {
		t.Errorf("Same or Check changes its argument")
	}
	checkSame(t, "the arguments of Same and Check", g, sample(), true)
}

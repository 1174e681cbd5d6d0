package lower_test

import (
	"fmt"
	"slices"

	"windlass/api"
	"windlass/ir"
	"windlass/live"
	"windlass/order"
	"windlass/samples"
)

// The rules are those of P15.1, and those of chapter 16, which layer 16 is to
// hold against what Lower returns. They are read here as the chapters say them.

// pair is a graph that is read free, what it became, and what the plan says.
type pair struct {
	free, bound  api.Graph
	place, start []int
	line         []int   // the nodes of free that are reachable
	live         [][]int // by node of free, the places that are live there
}

// fault of graphs that are read bound, as those that a plan says g became; "" if
// there is none.
func fault(g, bound api.Graphs, plan api.Plan) string {
	n := len(g.Funcs)
	switch {
	case ir.Check(bound, true) != api.OK:
		return "not valid, read bound"
	case len(bound.Funcs) != n || len(plan.Place) != n || len(plan.Start) != n:
		return "as many graphs"
	}
	for f := range g.Funcs {
		x := &pair{free: g.Funcs[f], bound: bound.Funcs[f], place: plan.Place[f], start: plan.Start[f]}
		x.line, _ = order.Line(g, f)
		x.live, _ = live.In(g, f)
		if told := x.fault(); told != "" {
			return fmt.Sprint("graph ", f, ": ", told)
		}
	}
	return ""
}

func (x *pair) fault() string {
	for _, rule := range []func() string{x.headFault, x.placesFault, x.startsFault, x.fieldsFault, x.beginningFault} {
		if told := rule(); told != "" {
			return told
		}
	}
	for _, i := range x.line {
		if told := x.nodeFault(i); told != "" {
			return fmt.Sprint("node ", i, ": ", told)
		}
	}
	return ""
}

func (x *pair) headFault() string {
	f, b := x.free, x.bound
	switch {
	case len(f.Params) != len(b.Params):
		return "other parameters"
	case f.Result != b.Result:
		return "another Result"
	case f.Cells != b.Cells:
		return "other Cells"
	case !slices.Equal(f.Init, b.Init):
		return "another Init"
	case f.Keep != b.Keep:
		return "another Keep"
	}
	for i, p := range f.Params {
		if b.Kinds[i] != f.Kinds[p] {
			return fmt.Sprint("register ", i, " has not its kind")
		}
	}
	return ""
}

func (x *pair) placesFault() string {
	if len(x.place) != len(x.free.Kinds) {
		return "a bound place each"
	}
	for p, b := range x.place {
		switch {
		case b < -1 || b >= len(x.bound.Kinds):
			return fmt.Sprint("place ", p, " has ", b)
		case b >= 16 && x.bound.Kinds[b] != x.free.Kinds[p]:
			return fmt.Sprint("slot ", b, " has not its kind")
		}
	}
	return ""
}

func (x *pair) startsFault() string {
	if len(x.start) != len(x.free.Nodes) {
		return "a start each"
	}
	by := map[int]int{}
	for i, s := range x.start {
		first, again := by[s]
		switch reachable := slices.Contains(x.line, i); {
		case !reachable && s != -1:
			return fmt.Sprint("node ", i, " is not reachable")
		case !reachable:
			continue
		case s < 0 || s >= len(x.bound.Nodes):
			return fmt.Sprint("node ", i, " begins nowhere")
		case again:
			return fmt.Sprint("nodes ", first, " and ", i, " begin at one")
		}
		by[s] = i
	}
	return ""
}

// fieldsFault: what no operation uses is nothing, and 13 to 15 are not for nodes
// (layer 21).
func (x *pair) fieldsFault() string {
	for i, n := range x.bound.Nodes {
		if !ir.Same(ofNode(n), ofNode(samples.Used(n))) {
			return fmt.Sprint("bound node ", i, " has something that it does not use")
		}
		for _, p := range slices.Concat(ir.Reads(n), ir.Writes(n)) {
			if p > 12 && p < 16 {
				return fmt.Sprint("bound node ", i, " uses ", p)
			}
		}
	}
	return ""
}

func ofNode(n api.Node) api.Graphs {
	return api.Graphs{Funcs: []api.Graph{{Nodes: []api.Node{n}}}}
}

// Names of words. Those from own on are the places' own ones.
const (
	unnamed = iota
	zero
	newD
	newE
	own
)

// names of the words in bound places.
type names []int

// pass on from a node of the bound graph, through moves and nodes that do
// nothing, to one that ends the way.
func (x *pair) pass(has names, at int, ends func(at int) bool, zeros bool) (int, bool) {
	for range len(x.bound.Nodes) + 1 {
		if ends(at) {
			return at, true
		}
		switch n := x.bound.Nodes[at]; {
		case n.Op == api.NMove:
			has[n.D] = has[n.A]
		case n.Op == api.NConst && n.Imm == 0 && zeros:
			has[n.D] = zero
		case n.Op != api.NNop:
			return at, false
		}
		at = x.bound.Nodes[at].Next
	}
	return at, false
}

// arrives reports what is missing at a node of the free graph: the way from a node
// of the bound one, or a word in the bound place of a place that is live.
func (x *pair) arrives(has names, at, node int, name func(place int) int, zeros bool) string {
	atStart := func(at int) bool { return at == x.start[node] }
	if _, ok := x.pass(has, at, atStart, zeros); !ok {
		return fmt.Sprint("no way to ", node)
	}
	for _, p := range x.live[node] {
		if b := x.place[p]; b < 0 || has[b] != name(p) {
			return fmt.Sprint("place ", p, " is not kept on the way to ", node)
		}
	}
	return ""
}

func (x *pair) beginningFault() string {
	has := make(names, len(x.bound.Kinds))
	for i, p := range x.free.Params {
		has[i] = own + p
	}
	for b := 16; b < len(has); b++ {
		has[b] = zero
	}
	return x.arrives(has, x.bound.Entry, x.free.Entry, func(place int) int {
		if slices.Contains(x.free.Params, place) {
			return own + place
		}
		return zero
	}, true)
}

// nodeFault of what a node of the free graph became.
func (x *pair) nodeFault(i int) string {
	has := make(names, len(x.bound.Kinds))
	for _, p := range x.live[i] {
		b := x.place[p]
		if b < 0 || has[b] != unnamed {
			return fmt.Sprint("place ", p, " has no bound place of its own")
		}
		has[b] = own + p
	}
	n := x.free.Nodes[i]
	if n.Op == api.NMove || n.Op == api.NNop {
		return x.stepFault(has, i)
	}
	other := func(at int) bool {
		op := x.bound.Nodes[at].Op
		return op != api.NMove && op != api.NNop
	}
	at, ok := x.pass(has, x.start[i], other, false)
	if !ok {
		return "is not there"
	}
	b := x.bound.Nodes[at]
	if told := x.readsFault(has, n, b); told != "" {
		return told
	}
	write(has, n, b)
	if told := x.heldFault(n); told != "" {
		return told
	}
	return x.onFault(has, n, b)
}

// stepFault of a move, or of a node that does nothing: there is at least one node.
func (x *pair) stepFault(has names, i int) string {
	first := true
	next, ok := x.pass(has, x.start[i], func(int) bool {
		was := first
		first = false
		return !was
	}, false)
	if !ok {
		return "is not there"
	}
	n := x.free.Nodes[i]
	return x.arrives(has, next, n.Next, func(place int) int {
		if n.Op == api.NMove && place == n.D {
			return own + n.A
		}
		return own + place
	}, false)
}

// readsFault: the node is the same, and reads the words that it is to read.
func (x *pair) readsFault(has names, n, b api.Node) string {
	u, v := samples.Used(n), samples.Used(b)
	if u.Op != v.Op || u.By != v.By || u.Imm != v.Imm || u.Cell != v.Cell || u.F != v.F {
		return "is another one"
	}
	reads := func(place, bound int) bool {
		return place == -1 && bound == -1 || place >= 0 && bound >= 0 && has[bound] == own+place
	}
	okA, okB := true, true
	switch n.Op {
	case api.NBin, api.NStore:
		okA, okB = reads(n.A, b.A), reads(n.B, b.B)
	case api.NCellSet, api.NLoad, api.NBranch, api.NRet, api.NPanic, api.NOut, api.NExit:
		okA = reads(n.A, b.A)
	}
	if !okA || !okB {
		return "reads another word"
	}
	for k, p := range n.Args {
		if (n.Op == api.NCall || n.Op == api.NDefer) && has[k] != own+p {
			return fmt.Sprint("argument ", k, " is another word")
		}
	}
	if n.Op == api.NCall && (n.D < 0) != (b.D < 0) {
		return "has a number, or it has none"
	}
	return ""
}

// write names as a node does.
func write(has names, n, b api.Node) {
	if n.Op == api.NCall {
		for p := range has[:16] {
			if p < 6 || p > 11 {
				has[p] = unnamed
			}
		}
	}
	for k, p := range ir.Writes(b) {
		has[p] = newD + k
	}
}

// heldFault: pointers that are held over a call have slots.
func (x *pair) heldFault(n api.Node) string {
	if n.Op != api.NCall && n.Op != api.NDefer {
		return ""
	}
	for _, p := range x.live[n.Next] {
		if x.free.Kinds[p] == api.Ptr && x.place[p] < 16 {
			return fmt.Sprint("pointer ", p, " has no slot")
		}
	}
	return ""
}

// onFault: behind the node, each way leads on to what the node continues with.
func (x *pair) onFault(has names, n, b api.Node) string {
	name := func(place int) int {
		if k := slices.Index(ir.Writes(n), place); k >= 0 {
			return newD + k
		}
		return own + place
	}
	switch n.Op {
	case api.NRet, api.NPanic, api.NExit:
		return ""
	case api.NBranch:
		if told := x.arrives(slices.Clone(has), b.Else, n.Else, name, false); told != "" {
			return told
		}
	}
	return x.arrives(has, b.Next, n.Next, name, false)
}

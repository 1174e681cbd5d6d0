package samples

import (
	"slices"

	"windlass/api"
	"windlass/ir"
)

// Crowd tells what graphs Crowded makes.
type Crowd struct {
	Nodes    int  // of the first graph, about; at most 500
	Width    int  // in the first graph, at most so many places are in use at one node
	Pointers bool // some of them are pointers
	Held     bool // some of these are held over calls
}

// crowd is graphs of which the first one is in the making. In it a place is in
// use from the node that writes it first to the one that reads it last.
type crowd struct {
	*Maker
	of    Crowd
	g     api.Graphs
	f     *api.Graph
	fresh []int    // places that no node uses yet
	inUse [2][]int // by kind
}

// crowdText are a first graph that is empty yet, and those that it calls.
const crowdText = "graph places=0 | tell 100; ret - | graph params=3,7 result; sub 4 3 7; ret 4 | " +
	"graph params=3,7 ptrs=7 result; load 4 7; add 4 4 3; store 7 3; ret 4 | graph params=7 ptrs=7; load 4 7; out 4; ret - | graph params=3; out 3; ret -"

// Crowded graphs are valid, read free. The nodes of the first one are in a line,
// though some branches leave out a node.
func (m *Maker) Crowded(of Crowd) api.Graphs {
	c := &crowd{Maker: m, of: of}
	c.g, _ = Graphs(crowdText)
	c.f = &c.g.Funcs[0]
	c.fresh = m.perm(2 * (of.Nodes + 1))
	c.f.Kinds = make([]api.Kind, len(c.fresh))
	for len(c.f.Nodes) < of.Nodes {
		c.step()
	}
	for _, p := range c.inUse[api.Num] {
		c.add(api.Node{Op: api.NOut, A: p})
	}
	for _, p := range c.inUse[api.Ptr] {
		c.add(api.Node{Op: api.NMove, D: p, A: p})
	}
	c.add(api.Node{Op: api.NRet, A: -1})
	return c.g
}

// step adds a node, or two, or none if what has been rolled cannot be.
func (c *crowd) step() {
	room := c.of.Width - len(c.inUse[api.Num]) - len(c.inUse[api.Ptr])
	hasNum, hasPtr := len(c.inUse[api.Num]) > 0, len(c.inUse[api.Ptr]) > 0
	switch roll := c.Roll(10); {
	case roll < 3 && room > 0:
		c.begin()
	case roll == 3 && room > 1:
		c.use(api.Node{Op: api.NRecover, D: c.open(api.Num), E: c.open(api.Num)})
	case roll == 4 && hasNum && room > 0:
		n := api.Node{Op: api.NBin, By: api.Add + api.Op(c.Roll(14)), A: c.some(api.Num), B: c.some(api.Num)}
		n.D = c.open(api.Num)
		c.use(n)
	case roll == 5 && hasNum && hasPtr:
		n := api.Node{Op: api.NStore, A: c.some(api.Ptr), B: c.some(api.Num)}
		if c.one(2) {
			n.Op, n.D = api.NLoad, n.B
		}
		c.use(n)
	case roll == 6 && hasNum:
		c.read()
	case roll == 7 && hasPtr:
		c.use(api.Node{Op: api.NMove, D: c.some(api.Ptr), A: c.some(api.Ptr)})
	case roll > 7 && (c.of.Held || !hasPtr):
		c.call(room > 0)
	}
}

// begin a place's use.
func (c *crowd) begin() {
	cell := c.Roll(c.f.Cells)
	switch roll := c.Roll(4); {
	case roll == 0 && c.of.Pointers:
		c.use(api.Node{Op: api.NAddr, D: c.open(api.Ptr), Cell: cell})
	case roll == 1:
		c.use(api.Node{Op: api.NConst, D: c.open(api.Num), Imm: uint64(c.Roll(5))})
	case roll == 2:
		c.use(api.Node{Op: api.NCellGet, D: c.open(api.Num), Cell: cell})
	default:
		c.use(api.Node{Op: api.NIn, D: c.open(api.Num)})
	}
}

// read a number.
func (c *crowd) read() {
	n := api.Node{Op: api.NOut, A: c.some(api.Num)}
	switch c.Roll(4) {
	case 0:
		c.use(api.Node{Op: api.NCellSet, A: n.A, Cell: c.Roll(c.f.Cells)})
	case 1:
		// The number that the branch leaves out is in use up to there all the same.
		c.add(api.Node{Op: api.NBranch, A: c.some(api.Num), Else: len(c.f.Nodes) + 2})
		c.use(n)
	default:
		c.use(n)
	}
}

// call or defer one of the other graphs.
func (c *crowd) call(hasRoom bool) {
	n := api.Node{Op: api.NCall, F: 1 + c.Roll(len(c.g.Funcs)-1), D: -1}
	called := c.g.Funcs[n.F]
	for _, p := range called.Params {
		kind := called.Kinds[p]
		if len(c.inUse[kind]) == 0 {
			return
		}
		n.Args = append(n.Args, c.some(kind))
	}
	switch {
	case c.one(3):
		n.Op = api.NDefer
	case called.Result && hasRoom:
		n.D = c.open(api.Num)
	}
	c.use(n)
}

func (c *crowd) some(kind api.Kind) int {
	return c.inUse[kind][c.Roll(len(c.inUse[kind]))]
}

// open a place that no node has used.
func (c *crowd) open(kind api.Kind) int {
	p := c.fresh[0]
	c.fresh = c.fresh[1:]
	c.f.Kinds[p] = kind
	c.inUse[kind] = append(c.inUse[kind], p)
	return p
}

// use places by a node that is added. Some that it reads are not used any more.
func (c *crowd) use(n api.Node) {
	c.add(n)
	for _, p := range ir.Reads(n) {
		if c.one(2) {
			kind := c.f.Kinds[p]
			c.inUse[kind] = slices.DeleteFunc(c.inUse[kind], func(q int) bool { return q == p })
		}
	}
}

func (c *crowd) add(n api.Node) {
	n.Next = len(c.f.Nodes) + 1
	c.f.Nodes = append(c.f.Nodes, n)
}

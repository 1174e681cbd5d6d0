package irun_test

import (
	"windlass/api"
	"windlass/word"
)

// The second reading: a graph's call is a call of Go, which answers when the
// frame is removed; pointers are Go's, beside the numbers. Nothing in it is kept
// from step to step but what Go itself keeps.

// value is a word.
type value struct {
	number uint64
	cell   *cell // nil: it is a number
}

type cell struct {
	holds value
	gone  bool // its frame is no longer on the stack
}

// woe is a panic.
type woe struct {
	value uint64
	over  bool // it is recovered
}

// later is a deferred call.
type later struct {
	function int
	args     []value
}

// stopped is what Go's own panic carries when a run is over amid its calls.
type stopped struct {
	end     api.End
	unclear bool // a number would be made of a pointer: nothing is promised
}

type reader struct {
	g                     api.Graphs
	bound                 bool
	tape                  []uint64
	fuel                  int
	registers             [16]value
	depth, waiting, woes  int // at this time
	events                []api.Event
	steps, asked          int
	depths, waits, woeses int // the greatest
}

// reading of graphs that are valid, read in that way; false if it stopped where
// a number would be made of a pointer.
func reading(g api.Graphs, bound bool, tape []uint64, fuel int) (api.Result, bool) {
	m := &reader{g: g, bound: bound, tape: tape, fuel: fuel}
	end, sure := m.all()
	return api.Result{Events: m.events, End: end, Steps: m.steps, Depth: m.depths, Defers: m.waits, Panics: m.woeses}, sure
}

func (m *reader) all() (end api.End, sure bool) {
	sure = true
	defer func() {
		x := recover()
		if s, ok := x.(stopped); ok {
			end, sure = s.end, !s.unclear
		} else if x != nil {
			panic(x)
		}
	}()
	if _, w := m.call(0, nil, nil); w != nil {
		return api.End{Kind: api.Uncaught, Value: w.value}, true
	}
	return api.End{Kind: api.Exited}, true
}

// call a graph, perhaps by a panic. It answers the frame's number, or the panic
// that has removed the frame.
func (m *reader) call(n int, args []value, by *woe) (value, *woe) {
	m.depth++
	m.depths = max(m.depths, m.depth)
	b := m.newBody(n, args, by)
	number, w := b.run()
	for len(b.defers) > 0 {
		d := b.defers[len(b.defers)-1]
		b.defers = b.defers[:len(b.defers)-1]
		m.waiting--
		_, next := m.call(d.function, d.args, w)
		if next != nil {
			if w != nil {
				m.woes--
			}
			w = next
		} else if w != nil && w.over {
			m.woes--
			w, number = nil, value{}
			if b.f.Keep != -1 {
				number = b.cells[b.f.Keep].holds
			}
		}
	}
	for i := range b.cells {
		b.cells[i].gone = true
	}
	m.depth--
	return number, w
}

// body is a graph's nodes at work.
type body struct {
	m      *reader
	f      api.Graph
	places map[int]value // its own
	cells  []cell
	defers []later
	by     *woe
}

func (m *reader) newBody(n int, args []value, by *woe) *body {
	f := m.g.Funcs[n]
	b := &body{m: m, f: f, places: map[int]value{}, cells: make([]cell, f.Cells), by: by}
	for i, a := range args {
		b.lay(f.Params[i], a)
		if c := f.Init[i]; c != -1 {
			b.cells[c].holds = a
		}
	}
	return b
}

// isRegister reports whether a place is all frames'.
func (b *body) isRegister(place int) bool { return b.m.bound && place < 16 }

func (b *body) at(place int) value {
	if b.isRegister(place) {
		return b.m.registers[place]
	}
	return b.places[place]
}

func (b *body) lay(place int, v value) {
	if b.isRegister(place) {
		b.m.registers[place] = v
	} else {
		b.places[place] = v
	}
}

// plain is the number in a place.
func (b *body) plain(place int) uint64 {
	v := b.at(place)
	if v.cell != nil {
		panic(stopped{unclear: true})
	}
	return v.number
}

func (b *body) number(place int, n uint64) { b.lay(place, value{number: n}) }

func (b *body) list(places []int) []value {
	var out []value
	for _, p := range places {
		out = append(out, b.at(p))
	}
	return out
}

// run until the graph returns a number, or panics.
func (b *body) run() (value, *woe) {
	m := b.m
	for at := b.f.Entry; ; {
		if m.steps == m.fuel {
			panic(stopped{end: api.End{Kind: api.NoFuel}})
		}
		m.steps++
		n := b.f.Nodes[at]
		at = n.Next
		switch n.Op {
		case api.NBranch:
			if v := b.at(n.A); v.cell == nil && v.number == 0 {
				at = n.Else
			}
		case api.NRet:
			if n.A == -1 {
				return value{}, nil
			}
			return b.at(n.A), nil
		default:
			if w := b.do(n); w != nil {
				return value{}, w
			}
		}
	}
}

func (m *reader) in() uint64 {
	v := uint64(0)
	if m.asked < len(m.tape) {
		v = m.tape[m.asked]
	}
	m.asked++
	m.events = append(m.events, api.Event{Kind: api.Asked, Value: v})
	return v
}

func (m *reader) newWoe(v uint64) *woe {
	m.woes++
	m.woeses = max(m.woeses, m.woes)
	return &woe{value: v}
}

// do a node that continues with Next; or it answers the panic that is in this
// frame from now on.
func (b *body) do(n api.Node) *woe {
	m := b.m
	switch n.Op {
	case api.NConst:
		b.number(n.D, n.Imm)
	case api.NMove:
		b.lay(n.D, b.at(n.A))
	case api.NBin:
		v, e := word.Do(n.By, b.plain(n.A), b.plain(n.B))
		if e != api.OK {
			return m.newWoe(1<<64 - 1)
		}
		b.number(n.D, v)
	case api.NCellGet:
		b.lay(n.D, b.cells[n.Cell].holds)
	case api.NCellSet:
		b.cells[n.Cell].holds = b.at(n.A)
	case api.NAddr:
		b.lay(n.D, value{cell: &b.cells[n.Cell]})
	case api.NLoad, api.NStore:
		return b.touch(n)
	case api.NNop:
	case api.NCall:
		return b.calls(n)
	case api.NDefer:
		b.defers = append(b.defers, later{n.F, b.list(n.Args)})
		m.waiting++
		m.waits = max(m.waits, m.waiting)
	case api.NPanic:
		return m.newWoe(b.plain(n.A))
	case api.NRecover:
		if b.by == nil || b.by.over {
			b.number(n.D, 0)
			b.number(n.E, 0)
		} else {
			b.by.over = true
			b.number(n.D, b.by.value)
			b.number(n.E, 1)
		}
	case api.NIn:
		b.number(n.D, m.in())
	case api.NOut:
		m.events = append(m.events, api.Event{Kind: api.Wrote, Value: b.plain(n.A)})
	case api.NExit:
		panic(stopped{end: api.End{Kind: api.Exited, Value: b.plain(n.A)}})
	}
	return nil
}

// touch a cell through a pointer.
func (b *body) touch(n api.Node) *woe {
	c := b.at(n.A).cell
	switch {
	case c == nil || c.gone:
		return b.m.newWoe(1<<64 - 2)
	case n.Op == api.NLoad:
		b.lay(n.D, c.holds)
	default:
		c.holds = b.at(n.B)
	}
	return nil
}

func (b *body) calls(n api.Node) *woe {
	m := b.m
	before := m.registers
	number, w := m.call(n.F, b.list(n.Args), nil)
	if w != nil {
		return w
	}
	if !m.bound {
		if n.D != -1 {
			b.lay(n.D, number)
		}
		return nil
	}
	for i := range m.registers {
		if i < 6 || i > 11 {
			m.registers[i] = value{number: 0x5a5a5a5a5a5a5a5a}
		} else {
			m.registers[i] = before[i]
		}
	}
	if m.g.Funcs[n.F].Result {
		m.registers[0] = number
	}
	return nil
}

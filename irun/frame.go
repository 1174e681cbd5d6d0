package irun

import (
	"windlass/api"
)

// frame is a graph in execution. There is a type for each way of reading: it
// decides where the places are, and what is in them behind a call.
type frame interface {
	body() *call
	get(place int) uint64
	put(place int, v uint64)
	wait(n *api.Node)   // n calls a function: the frame waits for its end
	resume(ended *call) // the frame for which it has waited has ended
}

// call is what every frame has.
type call struct {
	of       *api.Graph
	as       way
	serial   uint64 // how many frames have begun before it
	at       int    // the node
	words    memory
	deferred []invocation
	number   uint64 // with which it ends
}

// way is how a frame has come to be: it decides what follows its end.
type way int

const (
	asFirst way = iota
	asCalled
	asDeferred // by the end of the frame below
	byPanic    // by the panic that is the active one while this is the last frame
)

// invocation is a function and what it is handed.
type invocation struct {
	function int
	args     []uint64
}

func (c *call) body() *call { return c }

// own is where a frame's own place is among its words: behind the cells.
func (c *call) own(place int) int { return c.of.Cells + place }

// freeFrame is read free: all places are its own.
type freeFrame struct {
	call
	answer int // the place for the number of the call for which it waits, or none
}

func newFreeFrame(c call) frame { return &freeFrame{call: c} }

func (f *freeFrame) get(place int) uint64    { return f.words.get(f.own(place)) }
func (f *freeFrame) put(place int, v uint64) { f.words.put(f.own(place), v) }

func (f *freeFrame) wait(n *api.Node) { f.answer = n.D }

func (f *freeFrame) resume(ended *call) {
	if f.answer != none {
		f.put(f.answer, ended.number)
	}
}

// registers are the machine's, which the frames of a run share.
type registers [api.Registers]uint64

// boundFrame is read bound: the first places are registers.
type boundFrame struct {
	call
	shared *registers
	before registers // as they were at the call for which it waits
}

func (all *registers) newFrame(c call) frame { return &boundFrame{call: c, shared: all} }

func (f *boundFrame) get(place int) uint64 {
	if place < api.Registers {
		return f.shared[place]
	}
	return f.words.get(f.own(place - api.Registers))
}

func (f *boundFrame) put(place int, v uint64) {
	if place < api.Registers {
		f.shared[place] = v
		return
	}
	f.words.put(f.own(place-api.Registers), v)
}

func (f *boundFrame) wait(*api.Node) { f.before = *f.shared }

func (f *boundFrame) resume(ended *call) {
	after := poisoned()
	copy(after[api.Saved:api.Scratch], f.before[api.Saved:api.Scratch])
	if ended.of.Result {
		after[0] = ended.number
	}
	*f.shared = after
}

func poisoned() registers {
	var all registers
	for i := range all {
		all[i] = api.Poison
	}
	return all
}

// invoked is the function that a node calls or defers, with its arguments.
func invoked(f frame, n *api.Node) invocation {
	args := make([]uint64, len(n.Args))
	for i, place := range n.Args {
		args[i] = f.get(place)
	}
	return invocation{n.F, args}
}

// begin makes a new frame the last one.
func (r *run) begin(as way, i invocation) {
	g := &r.funcs[i.function]
	f := r.newFrame(call{of: g, as: as, serial: r.begun, at: g.Entry})
	for k, place := range g.Params {
		f.put(place, i.args[k])
		if cell := g.Init[k]; cell != none {
			f.body().words.put(cell, i.args[k])
		}
	}
	r.begun++
	r.frames = append(r.frames, f)
	r.result.Depth = max(r.result.Depth, len(r.frames))
	r.doing = executing
}

func (r *run) last() frame {
	return r.frames[len(r.frames)-1]
}

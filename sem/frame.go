package sem

import (
	"windlass/api"
)

// frame is a function call in progress. There is a type for each way in which
// one comes to be called: it decides what follows its end.
type frame interface {
	body() *call
	ended(r *run) // it has ended, and is removed
}

// call is what every frame has.
type call struct {
	of       *api.Func
	next     int // the instruction
	base     int // of its locals, in the memory
	stack    []uint64
	deferred []deferral
	number   uint64 // with which it ends
}

// deferral is a deferred call.
type deferral struct {
	function int
	args     []uint64
}

type (
	firstFrame    struct{ call }
	calledFrame   struct{ call }
	deferredFrame struct{ call } // the frame below ends
	panicFrame    struct {
		call
		by *raised // the panic that called it
	}
)

func (c *call) body() *call { return c }

func (c *call) push(v uint64) {
	c.stack = append(c.stack, v)
}

func (c *call) pop() uint64 {
	last := len(c.stack) - 1
	v := c.stack[last]
	c.stack = c.stack[:last]
	return v
}

func (f *firstFrame) ended(r *run) {
	r.end(api.Exited, 0)
}

func (f *calledFrame) ended(r *run) {
	if f.of.Result {
		r.last().push(f.number)
	}
	r.doing = executing
}

// ended leaves the frame below to go on ending, with the number that it has.
func (f *deferredFrame) ended(*run) {}

func (f *panicFrame) ended(r *run) {
	if !f.by.recovered {
		r.doing = unwinding
		return
	}
	r.panics = r.panics[:len(r.panics)-1]
	c := r.last()
	c.number = r.kept(c)
}

// kept is the number with which a recovered function ends.
func (r *run) kept(c *call) uint64 {
	if c.of.Keep < 0 {
		return 0
	}
	return r.memory[c.base+c.of.Keep]
}

// newCall has its locals.
func (r *run) newCall(function int, args []uint64) call {
	f := &r.funcs[function]
	base := len(r.memory)
	r.memory = append(r.memory, make([]uint64, len(f.Locals))...)
	copy(r.memory[base:], args)
	return call{of: f, base: base}
}

// begin makes a frame the last one.
func (r *run) begin(f frame) {
	r.frames = append(r.frames, f)
	r.result.Depth = max(r.result.Depth, len(r.frames))
	r.doing = executing
}

func (r *run) top() frame {
	return r.frames[len(r.frames)-1]
}

func (r *run) last() *call {
	return r.top().body()
}

// remove the last frame.
func (r *run) remove(f frame) {
	r.frames = r.frames[:len(r.frames)-1]
	r.memory = r.memory[:f.body().base]
}

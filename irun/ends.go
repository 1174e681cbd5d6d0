package irun

import (
	"slices"

	"windlass/api"
)

// raised is a panic.
type raised struct {
	value     uint64
	recovered bool
}

func (r *run) raise(value uint64) {
	r.panics = append(r.panics, raised{value: value})
	r.result.Panics = max(r.result.Panics, len(r.panics))
	r.doing = unwinding
}

func (r *run) active() *raised {
	return &r.panics[len(r.panics)-1]
}

func (r *run) catch(f frame, n *api.Node) {
	if f.body().as != byPanic || r.active().recovered {
		f.put(n.D, 0)
		f.put(n.E, 0)
		return
	}
	r.active().recovered = true
	f.put(n.D, r.active().value)
	f.put(n.E, 1)
}

// settle does what a step brings about, until a frame is to execute again.
func (r *run) settle() {
	for r.doing == ending || r.doing == unwinding {
		c := r.last().body()
		if i, ok := r.undefer(c); ok {
			r.invokeDeferred(i)
			continue
		}
		r.frames = r.frames[:len(r.frames)-1]
		if r.doing == ending {
			r.ended(c)
		} else {
			r.passed(c)
		}
	}
}

// undefer removes the last deferred call.
func (r *run) undefer(c *call) (invocation, bool) {
	last := len(c.deferred) - 1
	if last < 0 {
		return invocation{}, false
	}
	i := c.deferred[last]
	c.deferred = c.deferred[:last]
	r.waiting--
	return i, true
}

func (r *run) invokeDeferred(i invocation) {
	if r.doing == ending {
		r.begin(asDeferred, i)
	} else {
		r.begin(byPanic, i)
	}
}

// ended tells that a frame has ended, and is removed. If it was deferred, the
// one below goes on ending, with the number that it has.
func (r *run) ended(c *call) {
	switch c.as {
	case asFirst:
		r.end(api.Exited, 0)
	case asCalled:
		r.last().resume(c)
		r.doing = executing
	case byPanic:
		r.returned()
	}
}

// returned tells that a frame has ended that the active panic called.
func (r *run) returned() {
	if !r.active().recovered {
		r.doing = unwinding
		return
	}
	r.panics = r.panics[:len(r.panics)-1]
	c := r.last().body()
	c.number = c.kept()
}

// kept is the number with which a recovered function ends.
func (c *call) kept() uint64 {
	if c.of.Keep == none {
		return 0
	}
	return c.words.get(c.of.Keep)
}

// passed tells that the active panic has removed a frame.
func (r *run) passed(c *call) {
	if c.as == byPanic {
		// The frame was all that its own panic had to wait for.
		last := len(r.panics) - 1
		r.panics = slices.Delete(r.panics, last-1, last)
	}
	if len(r.frames) == 0 {
		r.end(api.Uncaught, r.active().value)
	}
}

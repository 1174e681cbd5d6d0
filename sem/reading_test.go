package sem_test

import (
	"windlass/api"
	"windlass/word"
)

// The second reading: a function's call is a call of Go, which answers when the
// frame is removed; pointers are Go's. Nothing in it is kept from step to step
// but what Go itself keeps.

// value is a word of the operand stack or a local.
type value struct {
	number uint64
	local  *uint64 // nil: the null pointer, or a number
}

// woe is a panic.
type woe struct {
	value uint64
	over  bool // it is recovered
}

// later is a deferred call.
type later struct {
	function int
	args     []value
}

// stopped is what Go's own panic carries when a run is over amid its calls.
type stopped struct{ end api.End }

type reader struct {
	funcs                 []api.Func
	tape                  []uint64
	fuel                  int
	depth, waiting, woes  int // at this time
	events                []api.Event
	steps, asked          int
	depths, waits, woeses int // the greatest
}

// reading of a program that keeps the rules of kinds.
func reading(p api.Program, tape []uint64, fuel int) api.Result {
	m := &reader{funcs: p.Funcs, tape: tape, fuel: fuel}
	end := m.all()
	return api.Result{Events: m.events, End: end, Steps: m.steps, Depth: m.depths, Defers: m.waits, Panics: m.woeses}
}

func (m *reader) all() (end api.End) {
	defer func() {
		x := recover()
		if s, ok := x.(stopped); ok {
			end = s.end
		} else if x != nil {
			panic(x)
		}
	}()
	if _, w := m.call(0, nil, nil); w != nil {
		return api.End{Kind: api.Uncaught, Value: w.value}
	}
	return api.End{Kind: api.Exited}
}

// call a function, perhaps by a panic. It answers a number, or the panic that
// has removed its frame.
func (m *reader) call(n int, args []value, by *woe) (uint64, *woe) {
	m.depth++
	m.depths = max(m.depths, m.depth)
	b := &body{m: m, f: m.funcs[n], locals: make([]value, len(m.funcs[n].Locals)), by: by}
	for i, a := range args {
		b.locals[i] = a
	}
	number, w := b.run()
	for len(b.defers) > 0 {
		d := b.defers[len(b.defers)-1]
		b.defers = b.defers[:len(b.defers)-1]
		m.waiting--
		_, next := m.call(d.function, d.args, w)
		if next != nil {
			if w != nil {
				m.woes--
			}
			w = next
		} else if w != nil && w.over {
			m.woes--
			w = nil
			number = 0
			if k := b.f.Keep; k != -1 {
				number = b.locals[k].number
			}
		}
	}
	m.depth--
	return number, w
}

// body is a function's instructions at work.
type body struct {
	m      *reader
	f      api.Func
	locals []value
	stack  []value
	defers []later
	by     *woe
}

func (b *body) push(v ...value) { b.stack = append(b.stack, v...) }
func (b *body) number(v ...uint64) {
	for _, n := range v {
		b.push(value{number: n})
	}
}

func (b *body) take(n int) []value {
	at := len(b.stack) - n
	out := append([]value(nil), b.stack[at:]...)
	b.stack = b.stack[:at]
	return out
}

// run until the function returns a number, or panics.
func (b *body) run() (uint64, *woe) {
	m := b.m
	for at := 0; ; {
		if m.steps == m.fuel {
			panic(stopped{api.End{Kind: api.NoFuel}})
		}
		m.steps++
		i := b.f.Code[at]
		at++
		switch i.Op {
		case api.Jump:
			at = i.Arg
		case api.Zero:
			if b.take(1)[0].number == 0 {
				at = i.Arg
			}
		case api.Ret:
			if b.f.Result {
				return b.take(1)[0].number, nil
			}
			return 0, nil
		default:
			if w := b.do(i); w != nil {
				return 0, w
			}
		}
	}
}

func (m *reader) in() uint64 {
	v := uint64(0)
	if m.asked < len(m.tape) {
		v = m.tape[m.asked]
	}
	m.asked++
	m.events = append(m.events, api.Event{Kind: api.Asked, Value: v})
	return v
}

func (m *reader) newWoe(v uint64) *woe {
	m.woes++
	m.woeses = max(m.woeses, m.woes)
	return &woe{value: v}
}

// do an instruction that goes on to the next; or it answers the panic that is
// in this frame from now on.
func (b *body) do(i api.Instr) *woe {
	m := b.m
	switch i.Op {
	case api.Const:
		b.number(i.Imm)
	case api.Get:
		b.push(b.locals[i.Arg])
	case api.Set:
		b.locals[i.Arg] = b.take(1)[0]
	case api.Addr:
		b.push(value{local: &b.locals[i.Arg].number})
	case api.Load:
		p := b.take(1)[0].local
		if p == nil {
			return m.newWoe(1<<64 - 2)
		}
		b.number(*p)
	case api.Store:
		x := b.take(2)
		if x[0].local == nil {
			return m.newWoe(1<<64 - 2)
		}
		*x[0].local = x[1].number
	case api.Call:
		f := m.funcs[i.Arg]
		number, w := m.call(i.Arg, b.take(f.Params), nil)
		if w != nil {
			return w
		}
		if f.Result {
			b.number(number)
		}
	case api.Defer:
		b.defers = append(b.defers, later{i.Arg, b.take(m.funcs[i.Arg].Params)})
		m.waiting++
		m.waits = max(m.waits, m.waiting)
	case api.Panic:
		return m.newWoe(b.take(1)[0].number)
	case api.Recover:
		if b.by == nil || b.by.over {
			b.number(0, 0)
		} else {
			b.by.over = true
			b.number(b.by.value, 1)
		}
	case api.In:
		b.number(m.in())
	case api.Out:
		m.events = append(m.events, api.Event{Kind: api.Wrote, Value: b.take(1)[0].number})
	case api.Exit:
		panic(stopped{api.End{Kind: api.Exited, Value: b.take(1)[0].number}})
	case api.Drop:
		b.take(1)
	case api.Dup:
		x := b.take(1)[0]
		b.push(x, x)
	default:
		x := b.take(2)
		v, e := word.Do(i.Op, x[0].number, x[1].number)
		if e != api.OK {
			return m.newWoe(1<<64 - 1)
		}
		b.number(v)
	}
	return nil
}

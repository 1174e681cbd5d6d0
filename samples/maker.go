package samples

import (
	"math"

	"windlass/api"
)

// Maker makes programs that keep the rules of kinds, always the same ones from
// the same seed.
type Maker struct {
	state uint64
	funcs []api.Func
	at    int // the function
	code  []api.Instr
	base  []api.Kind // the operand stack between things
	jumps []int      // the instructions whose Arg is a thing's number yet
}

// New is a Maker of its own.
func New(seed uint64) *Maker {
	return &Maker{state: seed}
}

// Roll is a number from 0 to n - 1.
func (m *Maker) Roll(n int) int {
	return int(m.Word() % uint64(n))
}

// Word is any word: a state that goes on by an odd number, well mixed.
func (m *Maker) Word() uint64 {
	m.state += 0x9e3779b97f4a7c15
	x := m.state
	x = (x ^ x>>30) * 0xbf58476d1ce4e5b9
	x = (x ^ x>>27) * 0x94d049bb133111eb
	return x ^ x>>31
}

func (m *Maker) one(in int) bool { return m.Roll(in) == 0 }

func (m *Maker) emit(op api.Op, arg int) {
	m.code = append(m.code, api.Instr{Op: op, Arg: arg})
}

func (m *Maker) constant(v uint64) {
	m.code = append(m.code, api.Instr{Op: api.Const, Imm: v})
}

// Program of two to six functions.
func (m *Maker) Program() api.Program {
	m.funcs = nil
	for i := range 2 + m.Roll(5) {
		m.funcs = append(m.funcs, m.heading(i))
	}
	for i := range m.funcs {
		m.body(i)
	}
	return api.Program{Funcs: m.funcs}
}

// heading of a function. One of its locals, at least, is a number.
func (m *Maker) heading(i int) api.Func {
	f := api.Func{Keep: -1}
	for range 1 + m.Roll(6) {
		f.Locals = append(f.Locals, api.Kind(m.Roll(2)))
	}
	f.Locals[m.Roll(len(f.Locals))] = api.Num
	if i > 0 {
		f.Params = min(m.Roll(api.MaxParams+1), len(f.Locals))
		f.Result = m.one(2)
	}
	if f.Result || m.one(2) {
		f.Keep = m.local(f, api.Num)
	}
	return f
}

// local of a kind, -1: none.
func (m *Maker) local(f api.Func, k api.Kind) int {
	var list []int
	for i, x := range f.Locals {
		if x == k {
			list = append(list, i)
		}
	}
	if len(list) == 0 {
		return -1
	}
	return list[m.Roll(len(list))]
}

func (m *Maker) body(i int) {
	m.at, m.code, m.base, m.jumps = i, nil, nil, nil
	f := &m.funcs[i]
	m.layBase()
	n := 1 + m.Roll(6)
	var begins []int
	for range n {
		begins = append(begins, len(m.code))
		if len(begins) == 1 && m.one(3) {
			m.ask(*f)
			continue
		}
		m.thing(n)
	}
	begins = append(begins, len(m.code))
	m.ret(2)
	for _, at := range m.jumps {
		m.code[at].Arg = begins[m.code[at].Arg]
	}
	f.Code = m.code
}

// layBase puts words on the stack that stay there while things are done.
func (m *Maker) layBase() {
	for range m.Roll(2) * m.Roll(5) {
		if m.one(2) {
			m.number(1)
			m.base = append(m.base, api.Num)
		} else {
			m.pointer()
			m.base = append(m.base, api.Ptr)
		}
	}
}

// ret tells or forgets what is on the stack, and ends the function.
func (m *Maker) ret(depth int) {
	for i := range m.base {
		switch k := m.base[len(m.base)-1-i]; {
		case m.one(4):
			m.emit(api.Drop, 0)
		case k == api.Num:
			m.emit(api.Out, 0)
		default:
			m.emit(api.Load, 0)
			m.emit(api.Out, 0)
		}
	}
	if m.funcs[m.at].Result {
		m.number(depth)
	}
	m.emit(api.Ret, 0)
}

// thing that begins and ends with the base on the stack. There are n of them.
func (m *Maker) thing(n int) {
	f := m.funcs[m.at]
	switch m.Roll(16) {
	case 0, 1:
		m.number(2)
		m.emit(api.Out, 0)
	case 2:
		m.number(2)
		m.emit(api.Set, m.local(f, api.Num))
	case 3:
		if p := m.local(f, api.Ptr); p >= 0 {
			m.pointer()
			m.emit(api.Set, p)
		}
	case 4, 5:
		m.pointer()
		m.number(1)
		m.emit(api.Store, 0)
	case 6:
		m.some(api.Call, m.other())
	case 7, 8, 9, 10:
		m.some(api.Defer, m.other())
	case 11:
		m.ask(f)
	case 12:
		m.number(1)
		m.jump(api.Zero, m.Roll(n+1))
	case 13:
		m.jump(api.Jump, m.Roll(n+1))
	case 14:
		m.number(1)
		m.emit(api.Panic, 0)
	case 15:
		m.rare(f)
	}
}

// ask whether there is a panic.
func (m *Maker) ask(f api.Func) {
	m.emit(api.Recover, 0)
	m.emit(api.Out, 0)
	m.emit(api.Set, m.local(f, api.Num))
}

// other is a function, most often one further on: a run of functions that call
// one another without end has little else in it.
func (m *Maker) other() int {
	if n := len(m.funcs) - 1 - m.at; n > 0 && !m.one(8) {
		return m.at + 1 + m.Roll(n)
	}
	return m.Roll(len(m.funcs))
}

func (m *Maker) rare(f api.Func) {
	switch m.Roll(4) {
	case 0:
		m.number(1)
		m.emit(api.Exit, 0)
	case 1:
		m.ret(1)
	case 2:
		m.emit(api.Recover, 0)
		m.emit(api.Drop, 0)
		m.emit(api.Panic, 0)
	case 3:
		m.pointer()
		m.emit(api.Drop, 0)
	}
}

func (m *Maker) jump(op api.Op, thing int) {
	m.jumps = append(m.jumps, len(m.code))
	m.emit(op, thing)
}

// either of two ways, by a number. Both leave the same kinds.
func (m *Maker) either(first, second func()) {
	m.plain()
	branch := len(m.code)
	m.emit(api.Zero, 0)
	first()
	end := len(m.code)
	m.emit(api.Jump, 0)
	m.code[branch].Arg = len(m.code)
	second()
	m.code[end].Arg = len(m.code)
}

// some call, or one that is deferred; what is answered is dropped or told.
func (m *Maker) some(op api.Op, f int) {
	m.arguments(f)
	m.emit(op, f)
	if op == api.Call && m.funcs[f].Result {
		m.emit([]api.Op{api.Out, api.Drop}[m.Roll(2)], 0)
	}
}

func (m *Maker) arguments(f int) {
	g := m.funcs[f]
	for _, k := range g.Locals[:g.Params] {
		if k == api.Num {
			m.number(0)
		} else {
			m.pointer()
		}
	}
}

func (m *Maker) number(depth int) {
	if depth == 0 {
		m.plain()
		return
	}
	switch m.Roll(8) {
	case 0:
		m.number(depth - 1)
		m.number(depth - 1)
		m.emit(api.Add+api.Op(m.Roll(14)), 0)
	case 1:
		m.pointer()
		m.emit(api.Load, 0)
	case 2:
		if f := m.other(); m.funcs[f].Result {
			m.arguments(f)
			m.emit(api.Call, f)
			return
		}
		m.plain()
	case 3:
		m.number(depth - 1)
		m.emit(api.Dup, 0)
		m.emit([]api.Op{api.Add, api.Mul, api.Shl}[m.Roll(3)], 0)
	case 4:
		m.either(func() { m.number(depth - 1) }, func() { m.number(depth - 1) })
	default:
		m.plain()
	}
}

func (m *Maker) plain() {
	switch m.Roll(3) {
	case 0:
		m.constant([]uint64{0, 1, 2, 5, 9, math.MaxUint64}[m.Roll(6)])
	case 1:
		m.emit(api.In, 0)
	case 2:
		m.emit(api.Get, m.local(m.funcs[m.at], api.Num))
	}
}

func (m *Maker) pointer() {
	if m.one(8) {
		m.either(m.plainPointer, m.plainPointer)
		return
	}
	m.plainPointer()
}

func (m *Maker) plainPointer() {
	f := m.funcs[m.at]
	if p := m.local(f, api.Ptr); p >= 0 && m.one(2) {
		m.emit(api.Get, p)
		return
	}
	m.emit(api.Addr, m.local(f, api.Num))
}

// Tape of up to five words.
func (m *Maker) Tape() []uint64 {
	var tape []uint64
	for range m.Roll(6) {
		tape = append(tape, []uint64{0, 1, 2, 3, 64, math.MaxUint64, 1 << 63}[m.Roll(7)])
	}
	return tape
}

// Broken is a program of which one thing is altered.
func (m *Maker) Broken() api.Program {
	p := m.Program()
	f := &p.Funcs[m.Roll(len(p.Funcs))]
	i := &f.Code[m.Roll(len(f.Code))]
	switch m.Roll(5) {
	case 0:
		i.Op = api.Op(m.Roll(34))
	case 1:
		i.Arg += m.Roll(3) - 1
	case 2:
		f.Locals[m.Roll(len(f.Locals))] ^= api.Kind(1 + m.Roll(2))
	case 3:
		f.Params, f.Result, f.Keep = m.Roll(6)-1, m.one(2), m.Roll(5)-2
	case 4:
		f.Code = f.Code[:len(f.Code)-1]
	}
	return p
}

package sem_test

import (
	"math"
	"math/rand"
	"testing"

	"windlass/api"
	"windlass/code"
	"windlass/kinds"
	"windlass/sem"
)

func same(t testing.TB, p api.Program, tape []uint64, fuel int) api.Result {
	t.Helper()
	r := run(t, p, tape, fuel)
	if s := reading(p, tape, fuel); !sameResult(r, s) {
		t.Fatalf("%s with %v and fuel %d: Run says %s; the second reading says %s", printed(p), tape, fuel, told(r), told(s))
	}
	return r
}

// act is what a function does, one of a list of things.
type act struct {
	op       api.Op
	function int
}

// acts of function n that are tried: it recovers, panics, and calls and defers
// functions behind it.
func acts(from, to int, both ...api.Op) []act {
	var list []act
	for _, op := range both {
		list = append(list, act{op: op})
	}
	for f := from; f <= to; f++ {
		list = append(list, act{api.Call, f}, act{api.Defer, f})
	}
	return list
}

// bodies are all lists of up to n acts; a panic is the last.
func bodies(list []act, n int) [][]act {
	out := [][]act{nil}
	if n == 0 {
		return out
	}
	for _, a := range list {
		if a.op == api.Panic {
			out = append(out, []act{a})
			continue
		}
		for _, rest := range bodies(list, n-1) {
			out = append(out, append([]act{a}, rest...))
		}
	}
	return out
}

// function of acts: what it panics with tells which function it is, and what
// recover leaves is told.
func function(n int, list []act) api.Func {
	f := api.Func{Keep: -1}
	for k, a := range list {
		switch a.op {
		case api.Recover:
			f.Code = append(f.Code, api.Instr{Op: api.Recover}, api.Instr{Op: api.Out}, api.Instr{Op: api.Out})
		case api.Panic:
			f.Code = append(f.Code, api.Instr{Op: api.Const, Imm: uint64(10*n + k)}, api.Instr{Op: api.Panic})
		default:
			f.Code = append(f.Code, api.Instr{Op: a.op, Arg: a.function})
		}
	}
	f.Code = append(f.Code, api.Instr{Op: api.Ret})
	return f
}

func functions(n int, lists [][]act) []api.Func {
	var out []api.Func
	for _, l := range lists {
		out = append(out, function(n, l))
	}
	return out
}

// TestP6_1EveryShortProgram: four functions, each of which does up to two
// things that make frames, end them, or ask about a panic.
func TestP6_1EveryShortProgram(t *testing.T) {
	first := functions(0, bodies(acts(1, 2, api.Panic), 2))
	second := functions(1, bodies(acts(2, 3, api.Recover, api.Panic), 2))
	third := functions(2, bodies(acts(3, 3, api.Recover, api.Panic), 2))
	fourth := functions(3, bodies(acts(1, 0, api.Recover, api.Panic), 2))
	seen := map[string]int{}
	for _, a := range first {
		for _, b := range second {
			for _, c := range third {
				for _, d := range fourth {
					p := api.Program{Funcs: []api.Func{a, b, c, d}}
					count(seen, same(t, p, nil, plenty))
				}
			}
		}
	}
	enough(t, seen)
}

// count what has been seen, so that it can be told whether enough was.
func count(seen map[string]int, r api.Result) {
	switch r.End.Kind {
	case api.Exited:
		seen["exited"]++
		if r.Panics > 0 {
			seen["recovered"]++
		}
	case api.Uncaught:
		seen["uncaught"]++
	case api.NoFuel:
		seen["no fuel"]++
	}
	if r.Panics >= 2 {
		seen["two panics"]++
	}
	if r.Panics >= 3 {
		seen["three panics"]++
	}
	if r.Defers >= 3 {
		seen["three waiting"]++
	}
	if r.Depth >= 4 {
		seen["four frames"]++
	}
	if len(r.Events) >= 5 {
		seen["five events"]++
	}
}

func enough(t *testing.T, seen map[string]int, more ...string) {
	t.Helper()
	for _, what := range append(more, "exited", "recovered", "uncaught", "two panics", "three panics", "three waiting", "four frames", "five events") {
		if n := seen[what]; n < 400 {
			t.Errorf("only %d times: %s", n, what)
		}
	}
}

// maker makes programs that keep the rules of kinds.
type maker struct {
	*rand.Rand
	funcs []api.Func
	at    int // the function
	code  []api.Instr
	jumps []int // the instructions whose Arg is a thing's number yet
}

func (m *maker) one(in int) bool { return m.Intn(in) == 0 }

func (m *maker) emit(op api.Op, arg int) {
	m.code = append(m.code, api.Instr{Op: op, Arg: arg})
}

func (m *maker) constant(v uint64) {
	m.code = append(m.code, api.Instr{Op: api.Const, Imm: v})
}

func (m *maker) program() api.Program {
	m.funcs = nil
	for i := range 2 + m.Intn(5) {
		m.funcs = append(m.funcs, m.heading(i))
	}
	for i := range m.funcs {
		m.body(i)
	}
	return api.Program{Funcs: m.funcs}
}

// heading of a function. One of its locals, at least, is a number.
func (m *maker) heading(i int) api.Func {
	f := api.Func{Keep: -1}
	for range 1 + m.Intn(5) {
		f.Locals = append(f.Locals, api.Kind(m.Intn(2)))
	}
	f.Locals[m.Intn(len(f.Locals))] = api.Num
	if i > 0 {
		f.Params = min(m.Intn(4), len(f.Locals))
		f.Result = m.one(2)
	}
	if f.Result || m.one(2) {
		f.Keep = m.local(f, api.Num)
	}
	return f
}

// local of a kind, -1: none.
func (m *maker) local(f api.Func, k api.Kind) int {
	var list []int
	for i, x := range f.Locals {
		if x == k {
			list = append(list, i)
		}
	}
	if len(list) == 0 {
		return -1
	}
	return list[m.Intn(len(list))]
}

func (m *maker) body(i int) {
	m.at, m.code, m.jumps = i, nil, nil
	f := &m.funcs[i]
	n := 1 + m.Intn(6)
	var begins []int
	for range n {
		begins = append(begins, len(m.code))
		if len(begins) == 1 && m.one(3) {
			m.ask(*f)
			continue
		}
		m.thing(n)
	}
	begins = append(begins, len(m.code))
	if f.Result {
		m.number(2)
	}
	m.emit(api.Ret, 0)
	for _, at := range m.jumps {
		m.code[at].Arg = begins[m.code[at].Arg]
	}
	f.Code = m.code
}

// thing that begins and ends with an empty stack. There are n of them.
func (m *maker) thing(n int) {
	f := m.funcs[m.at]
	switch m.Intn(16) {
	case 0, 1:
		m.number(2)
		m.emit(api.Out, 0)
	case 2:
		m.number(2)
		m.emit(api.Set, m.local(f, api.Num))
	case 3:
		if p := m.local(f, api.Ptr); p >= 0 {
			m.pointer()
			m.emit(api.Set, p)
		}
	case 4, 5:
		m.pointer()
		m.number(1)
		m.emit(api.Store, 0)
	case 6:
		m.some(api.Call, m.other())
	case 7, 8, 9, 10:
		m.some(api.Defer, m.other())
	case 11:
		m.ask(f)
	case 12:
		m.number(1)
		m.jump(api.Zero, m.Intn(n+1))
	case 13:
		m.jump(api.Jump, m.Intn(n+1))
	case 14:
		m.number(1)
		m.emit(api.Panic, 0)
	case 15:
		m.rare(f)
	}
}

// ask whether there is a panic.
func (m *maker) ask(f api.Func) {
	m.emit(api.Recover, 0)
	m.emit(api.Out, 0)
	m.emit(api.Set, m.local(f, api.Num))
}

// other is a function, most often one further on: a run of functions that call
// one another without end has little else in it.
func (m *maker) other() int {
	if n := len(m.funcs) - 1 - m.at; n > 0 && !m.one(8) {
		return m.at + 1 + m.Intn(n)
	}
	return m.Intn(len(m.funcs))
}

func (m *maker) rare(f api.Func) {
	switch m.Intn(4) {
	case 0:
		m.number(1)
		m.emit(api.Exit, 0)
	case 1:
		if f.Result {
			m.number(1)
		}
		m.emit(api.Ret, 0)
	case 2:
		m.emit(api.Recover, 0)
		m.emit(api.Drop, 0)
		m.emit(api.Panic, 0)
	case 3:
		m.pointer()
		m.emit(api.Drop, 0)
	}
}

func (m *maker) jump(op api.Op, thing int) {
	m.jumps = append(m.jumps, len(m.code))
	m.emit(op, thing)
}

// some call, or one that is deferred; what is answered is dropped or told.
func (m *maker) some(op api.Op, f int) {
	m.arguments(f)
	m.emit(op, f)
	if op == api.Call && m.funcs[f].Result {
		m.emit([]api.Op{api.Out, api.Drop}[m.Intn(2)], 0)
	}
}

func (m *maker) arguments(f int) {
	g := m.funcs[f]
	for _, k := range g.Locals[:g.Params] {
		if k == api.Num {
			m.number(0)
		} else {
			m.pointer()
		}
	}
}

func (m *maker) number(depth int) {
	if depth == 0 {
		m.plain()
		return
	}
	switch m.Intn(6) {
	case 0:
		m.number(depth - 1)
		m.number(depth - 1)
		m.emit(api.Add+api.Op(m.Intn(14)), 0)
	case 1:
		m.pointer()
		m.emit(api.Load, 0)
	case 2:
		if f := m.other(); m.funcs[f].Result {
			m.arguments(f)
			m.emit(api.Call, f)
			return
		}
		m.plain()
	case 3:
		m.number(depth - 1)
		m.emit(api.Dup, 0)
		m.emit([]api.Op{api.Add, api.Mul, api.Shl}[m.Intn(3)], 0)
	default:
		m.plain()
	}
}

func (m *maker) plain() {
	switch m.Intn(3) {
	case 0:
		m.constant([]uint64{0, 1, 2, 5, 9, math.MaxUint64}[m.Intn(6)])
	case 1:
		m.emit(api.In, 0)
	case 2:
		m.emit(api.Get, m.local(m.funcs[m.at], api.Num))
	}
}

func (m *maker) pointer() {
	f := m.funcs[m.at]
	if p := m.local(f, api.Ptr); p >= 0 && m.one(2) {
		m.emit(api.Get, p)
		return
	}
	m.emit(api.Addr, m.local(f, api.Num))
}

func (m *maker) tape() []uint64 {
	var tape []uint64
	for range m.Intn(6) {
		tape = append(tape, []uint64{0, 1, 2, 3, 64, math.MaxUint64, 1 << 63}[m.Intn(7)])
	}
	return tape
}

func TestP6_1ManyPrograms(t *testing.T) {
	m := &maker{Rand: rand.New(rand.NewSource(6))}
	seen := map[string]int{}
	for range 40000 {
		p := m.program()
		if _, e := kinds.Check(p); e != api.OK {
			t.Fatalf("layer 5 says %d of %s", int(e), printed(p))
		}
		count(seen, same(t, p, m.tape(), m.Intn(600)))
	}
	enough(t, seen, "no fuel")
}

func TestP6_2ManyPrograms(t *testing.T) {
	m := &maker{Rand: rand.New(rand.NewSource(62))}
	for range 1000 {
		p, tape := m.program(), m.tape()
		ladder(t, p, tape, min(run(t, p, tape, 200).Steps+3, 200))
	}
}

// broken is a program of which one thing is altered.
func (m *maker) broken() api.Program {
	p := m.program()
	f := &p.Funcs[m.Intn(len(p.Funcs))]
	i := &f.Code[m.Intn(len(f.Code))]
	switch m.Intn(5) {
	case 0:
		i.Op = api.Op(m.Intn(34))
	case 1:
		i.Arg += m.Intn(3) - 1
	case 2:
		f.Locals[m.Intn(len(f.Locals))] ^= api.Kind(1 + m.Intn(2))
	case 3:
		f.Params, f.Result, f.Keep = m.Intn(6)-1, m.one(2), m.Intn(5)-2
	case 4:
		f.Code = f.Code[:len(f.Code)-1]
	}
	return p
}

// TestP6_1ManyBrokenPrograms: Run answers what layer 5 does, or a run.
func TestP6_1ManyBrokenPrograms(t *testing.T) {
	m := &maker{Rand: rand.New(rand.NewSource(61))}
	seen := map[api.Errno]int{}
	for range 20000 {
		tryAny(t, m.broken(), m.tape(), m.Intn(100), seen)
	}
	if seen[api.OK] < 100 || seen[api.ErrForm] < 100 || seen[api.ErrKind] < 100 {
		t.Errorf("too few: %v", seen)
	}
}

// tryAny holds Run against layer 5 and the second reading, for any program.
func tryAny(t testing.TB, p api.Program, tape []uint64, fuel int, seen map[api.Errno]int) {
	t.Helper()
	_, want := kinds.Check(p)
	seen[want]++
	if want == api.OK {
		same(t, p, tape, fuel)
		return
	}
	if r, e := sem.Run(p, tape, fuel); e != want || !isZero(r) {
		t.Errorf("%s: Run returns %s, %d; want nothing, %d", printed(p), told(r), int(e), int(want))
	}
}

func FuzzRun(f *testing.F) {
	for _, x := range allExamples() {
		b, _ := code.Encode(parse(f, x.whole()))
		f.Add(b, uint64(5), 100)
	}
	m := &maker{Rand: rand.New(rand.NewSource(63))}
	for range 100 {
		b, _ := code.Encode(m.program())
		f.Add(b, m.Uint64(), 300)
	}
	f.Fuzz(func(t *testing.T, b []byte, number uint64, fuel int) {
		p, e := code.Decode(b)
		if e != api.OK || fuel < 0 || fuel > 3000 {
			return
		}
		tryAny(t, p, []uint64{number, 1}, fuel, map[api.Errno]int{})
	})
}

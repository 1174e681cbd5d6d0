package code_test

import (
	"bytes"
	"math/rand"
	"slices"
	"testing"

	"windlass/api"
	"windlass/code"
)

const greatest uint64 = 1<<64 - 1

// program of functions.
func program(list ...api.Func) api.Program { return api.Program{Funcs: list} }

// body is a function of instructions alone.
func body(list ...api.Instr) api.Func { return api.Func{Keep: -1, Code: list} }

func repeat[T any](x T, n int) []T {
	list := make([]T, n)
	fill(list, x)
	return list
}

func fill[T any](list []T, x T) {
	for i := range list {
		list[i] = x
	}
}

func join(parts ...[]byte) []byte { return slices.Concat(parts...) }

// coded is a program and its bytes.
type coded struct {
	name string
	p    api.Program
	b    []byte
}

// codeds are programs within all bounds.
func codeds() []coded {
	ret := api.Instr{Op: api.Ret}
	return []coded{
		{"the chapter's example", program(body(ret)),
			[]byte{0x57, 0x4c, 1, 0, 0, 0, 255, 1, 0, 24}},
		{"no instruction", program(body()),
			[]byte{0x57, 0x4c, 1, 0, 0, 0, 255, 0, 0}},
		{"each field of a function", program(api.Func{Params: 2, Locals: []api.Kind{api.Num, api.Ptr, api.Ptr}, Result: true, Keep: 1, Code: []api.Instr{ret}}),
			[]byte{0x57, 0x4c, 1, 2, 3, 0, 1, 1, 1, 1, 1, 0, 24}},
		{"the least Keep", program(api.Func{Keep: 0}),
			[]byte{0x57, 0x4c, 1, 0, 0, 0, 0, 0, 0}},
		{"the greatest Keep", program(api.Func{Keep: 254}),
			[]byte{0x57, 0x4c, 1, 0, 0, 0, 254, 0, 0}},
		{"a parameter for each local", program(api.Func{Params: 1, Locals: []api.Kind{api.Ptr}, Keep: -1}),
			[]byte{0x57, 0x4c, 1, 1, 1, 1, 0, 255, 0, 0}},
		{"numbers of two and eight bytes", program(body(api.Instr{Op: api.Jump, Arg: 0x0102}, api.Instr{Op: api.Const, Imm: 0x0102030405060708}, api.Instr{Op: api.Zero, Arg: 0xff00})),
			[]byte{0x57, 0x4c, 1, 0, 0, 0, 255, 3, 0, 21, 2, 1, 1, 8, 7, 6, 5, 4, 3, 2, 1, 22, 0, 0xff}},
		{"the greatest numbers", program(body(api.Instr{Op: api.Const, Imm: greatest}, api.Instr{Op: api.Get, Arg: 255}, api.Instr{Op: api.Jump, Arg: 65535})),
			[]byte{0x57, 0x4c, 1, 0, 0, 0, 255, 3, 0, 1, 255, 255, 255, 255, 255, 255, 255, 255, 2, 255, 21, 255, 255}},
		{"several functions", program(body(api.Instr{Op: api.Const, Imm: 7}, api.Instr{Op: api.Call, Arg: 1}, ret), api.Func{Params: 1, Locals: []api.Kind{api.Num, api.Ptr}, Keep: 0, Code: []api.Instr{{Op: api.Get}, {Op: api.Out}, ret}}, body()),
			[]byte{0x57, 0x4c, 3,
				0, 0, 0, 255, 3, 0, 1, 7, 0, 0, 0, 0, 0, 0, 0, 23, 1, 24,
				1, 2, 0, 1, 0, 0, 3, 0, 2, 0, 29, 24,
				0, 0, 0, 255, 0, 0}},
		{"256 instructions", program(body(repeat(ret, 256)...)),
			join([]byte{0x57, 0x4c, 1, 0, 0, 0, 255, 0, 1}, repeat(byte(24), 256))},
		{"all bounds met", allBoundsMet(), allBoundsMetBytes()},
	}
}

func allBoundsMet() api.Program {
	f := api.Func{Params: 4, Locals: repeat(api.Ptr, 16), Result: true, Keep: 15, Code: repeat(api.Instr{Op: api.Set, Arg: 3}, 256)}
	return program(repeat(f, 16)...)
}

func allBoundsMetBytes() []byte {
	f := join([]byte{4, 16}, repeat(byte(1), 16), []byte{1, 15, 0, 1}, bytes.Repeat([]byte{3, 3}, 256))
	return join([]byte{0x57, 0x4c, 16}, bytes.Repeat(f, 16))
}

// same holds programs against each other by itself, field by field.
func same(a, b api.Program) bool {
	if len(a.Funcs) != len(b.Funcs) {
		return false
	}
	for i, f := range a.Funcs {
		g := b.Funcs[i]
		if f.Params != g.Params || f.Result != g.Result || f.Keep != g.Keep {
			return false
		}
		if !slices.Equal(f.Locals, g.Locals) || !slices.Equal(f.Code, g.Code) {
			return false
		}
	}
	return true
}

func checkDecode(t *testing.T, name string, b []byte, want api.Program) {
	t.Helper()
	p, e := code.Decode(b)
	if e != api.OK || !same(p, want) {
		t.Errorf("%s: Decode returns %v, %d; want %v, OK", name, p, int(e), want)
	}
}

func checkNoDecode(t *testing.T, name string, b []byte, want api.Errno) {
	t.Helper()
	p, e := code.Decode(b)
	if e != want || len(p.Funcs) != 0 {
		t.Errorf("%s: Decode returns %d functions, %d; want none, %d", name, len(p.Funcs), int(e), int(want))
	}
}

func checkEncode(t *testing.T, name string, p api.Program, want []byte) {
	t.Helper()
	b, e := code.Encode(p)
	if e != api.OK || !bytes.Equal(b, want) {
		t.Errorf("%s: Encode returns %x, %d; want %x, OK", name, b, int(e), want)
	}
}

func checkNoEncode(t *testing.T, name string, p api.Program) {
	t.Helper()
	if b, e := code.Encode(p); e != api.ErrForm || len(b) != 0 {
		t.Errorf("%s: Encode returns %d bytes, %d; want none, ErrForm", name, len(b), int(e))
	}
}

func TestP3_1Decode(t *testing.T) {
	for _, c := range codeds() {
		checkDecode(t, c.name, c.b, c.p)
	}
}

func TestP3_1NoBytes(t *testing.T) {
	checkNoDecode(t, "nil", nil, api.ErrForm)
	checkNoDecode(t, "empty", []byte{}, api.ErrForm)
	checkNoDecode(t, "bytes of zeros", make([]byte, 100), api.ErrForm)
}

func TestP3_1EachBeginning(t *testing.T) {
	for _, c := range codeds() {
		for n := range len(c.b) {
			checkNoDecode(t, c.name+", less of it", c.b[:n], api.ErrForm)
		}
	}
}

func TestP3_1SomethingFollows(t *testing.T) {
	for _, c := range codeds() {
		for x := range 256 {
			checkNoDecode(t, c.name+", a byte more", append(slices.Clone(c.b), byte(x)), api.ErrForm)
		}
		checkNoDecode(t, c.name+", twice", join(c.b, c.b), api.ErrForm)
		checkNoDecode(t, c.name+", a function more", join(c.b, []byte{0, 0, 0, 255, 0, 0}), api.ErrForm)
	}
}

func TestP3_1FirstBytes(t *testing.T) {
	rest := []byte{1, 0, 0, 0, 255, 1, 0, 24}
	for x := range 256 {
		for y := range 256 {
			if x == 0x57 && y == 0x4c {
				continue
			}
			checkNoDecode(t, "other first bytes", join([]byte{byte(x), byte(y)}, rest), api.ErrForm)
		}
	}
	checkNoDecode(t, "no first bytes", rest, api.ErrForm)
	checkNoDecode(t, "one first byte", join([]byte{0x57}, rest), api.ErrForm)
}

func TestP3_1NoFunction(t *testing.T) {
	checkNoDecode(t, "no function", []byte{0x57, 0x4c, 0}, api.ErrForm)
	checkNoDecode(t, "one that is not counted", []byte{0x57, 0x4c, 0, 0, 0, 0, 255, 0, 0}, api.ErrForm)
}

func TestP3_1ParamsAndLocals(t *testing.T) {
	for params := range 256 {
		for locals := range 256 {
			b := join([]byte{0x57, 0x4c, 1, byte(params), byte(locals)}, make([]byte, locals), []byte{0, 255, 0, 0})
			switch {
			case params > locals:
				checkNoDecode(t, "more parameters than locals", b, api.ErrForm)
			case params > 4 || locals > 16:
				checkNoDecode(t, "too many parameters or locals", b, api.ErrBig)
			default:
				checkDecode(t, "parameters and locals", b, program(api.Func{Params: params, Locals: make([]api.Kind, locals), Keep: -1}))
			}
		}
	}
}

func TestP3_1KindsOfLocals(t *testing.T) {
	for at := range 3 {
		for k := range 256 {
			kinds := []byte{0, 0, 0}
			kinds[at] = byte(k)
			b := join([]byte{0x57, 0x4c, 1, 0, 3}, kinds, []byte{0, 255, 0, 0})
			if k > 1 {
				checkNoDecode(t, "a kind that is neither", b, api.ErrForm)
				continue
			}
			want := []api.Kind{api.Num, api.Num, api.Num}
			want[at] = api.Kind(k)
			checkDecode(t, "kinds", b, program(api.Func{Locals: want, Keep: -1}))
		}
	}
}

func TestP3_1Result(t *testing.T) {
	for x := range 256 {
		b := []byte{0x57, 0x4c, 1, 0, 0, byte(x), 255, 0, 0}
		if x > 1 {
			checkNoDecode(t, "a result that is neither 0 nor 1", b, api.ErrForm)
			continue
		}
		checkDecode(t, "a result", b, program(api.Func{Result: x == 1, Keep: -1}))
	}
}

func TestP3_1Keep(t *testing.T) {
	for x := range 256 {
		keep := x
		if x == 255 {
			keep = -1
		}
		checkDecode(t, "a Keep", []byte{0x57, 0x4c, 1, 0, 0, 0, byte(x), 0, 0}, program(api.Func{Keep: keep}))
	}
}

// sizes are the bytes behind each operation, as the chapter's grammar says.
func sizes(op int) int {
	switch op {
	case 1:
		return 8
	case 2, 3, 4, 23, 25: // get, set, addr, call, defer
		return 1
	case 21, 22: // jump, zero
		return 2
	}
	return 0
}

func TestP3_1Operations(t *testing.T) {
	behind := []byte{11, 12, 13, 14, 15, 16, 17, 18, 19, 20}
	for op := range 256 {
		for n := range len(behind) + 1 {
			b := join([]byte{0x57, 0x4c, 1, 0, 0, 0, 255, 1, 0, byte(op)}, behind[:n])
			if op < 1 || op > 32 || n != sizes(op) {
				checkNoDecode(t, "an operation with other bytes", b, api.ErrForm)
				continue
			}
			i := api.Instr{Op: api.Op(op)}
			switch n {
			case 1:
				i.Arg = 11
			case 2:
				i.Arg = 11 + 12<<8
			case 8:
				i.Imm = 0x1211100f0e0d0c0b
			}
			checkDecode(t, "an operation", b, program(body(i)))
		}
	}
}

func TestP3_1NumberOfInstructions(t *testing.T) {
	for _, n := range []int{0, 1, 2, 255, 256, 257, 258, 511, 512, 513, 65535} {
		b := join([]byte{0x57, 0x4c, 1, 0, 0, 0, 255, byte(n), byte(n >> 8)}, repeat(byte(24), n))
		if n > 256 {
			checkNoDecode(t, "too many instructions", b, api.ErrBig)
		} else {
			checkDecode(t, "instructions", b, program(body(repeat(api.Instr{Op: api.Ret}, n)...)))
		}
		checkNoDecode(t, "one more than counted", append(b, 24), api.ErrForm)
		checkNoDecode(t, "one less than counted", b[:len(b)-1], api.ErrForm)
	}
}

// beyond are programs that exceed one bound by one, or all by much.
func beyond() []coded {
	ret := api.Instr{Op: api.Ret}
	plain := []byte{0, 0, 0, 255, 1, 0, 24}
	list := []coded{
		{"17 functions", program(repeat(body(ret), 17)...), join([]byte{0x57, 0x4c, 17}, bytes.Repeat(plain, 17))},
		{"255 functions", program(repeat(body(ret), 255)...), join([]byte{0x57, 0x4c, 255}, bytes.Repeat(plain, 255))},
	}
	for _, f := range []struct {
		name string
		f    api.Func
		b    []byte
	}{
		{"5 parameters", api.Func{Params: 5, Locals: repeat(api.Num, 5), Keep: -1}, []byte{5, 5, 0, 0, 0, 0, 0, 0, 255, 0, 0}},
		{"17 locals", api.Func{Locals: repeat(api.Ptr, 17), Keep: -1}, join([]byte{0, 17}, repeat(byte(1), 17), []byte{0, 255, 0, 0})},
		{"257 instructions", body(repeat(ret, 257)...), join([]byte{0, 0, 0, 255, 1, 1}, repeat(byte(24), 257))},
		{"255 parameters and locals, 65535 instructions", api.Func{Params: 255, Locals: repeat(api.Num, 255), Keep: 254, Code: repeat(ret, 65535)},
			join([]byte{255, 255}, make([]byte, 255), []byte{0, 254, 255, 255}, repeat(byte(24), 65535))},
	} {
		list = append(list,
			coded{f.name, program(f.f), join([]byte{0x57, 0x4c, 1}, f.b)},
			coded{f.name + " in the first function", program(f.f, body(ret), body(ret)), join([]byte{0x57, 0x4c, 3}, f.b, plain, plain)},
			coded{f.name + " in the last function", program(body(ret), body(ret), f.f), join([]byte{0x57, 0x4c, 3}, plain, plain, f.b)})
	}
	return list
}

func TestP3_1BoundsExceeded(t *testing.T) {
	for _, c := range beyond() {
		checkNoDecode(t, c.name, c.b, api.ErrBig)
	}
}

func TestP3_1BoundsExceededByNoProgram(t *testing.T) {
	for _, c := range beyond() {
		checkNoDecode(t, c.name+", a byte less", c.b[:len(c.b)-1], api.ErrForm)
		checkNoDecode(t, c.name+", a byte more", append(slices.Clone(c.b), 24), api.ErrForm)
		last := slices.Clone(c.b)
		last[len(last)-1] = 33
		checkNoDecode(t, c.name+", another last byte", last, api.ErrForm)
		first := slices.Clone(c.b)
		first[0]++
		checkNoDecode(t, c.name+", another first byte", first, api.ErrForm)
	}
}

// verdict reads bytes by the chapter's grammar, by their indices.
func verdict(b []byte) api.Errno {
	at := func(i int) int {
		if i < len(b) {
			return int(b[i])
		}
		return 1000
	}
	if at(0) != 0x57 || at(1) != 0x4c || at(2) == 0 || at(2) == 1000 {
		return api.ErrForm
	}
	big := at(2) > 16
	i := 3
	for range at(2) {
		params, locals := at(i), at(i+1)
		for k := range locals {
			if at(i+2+k) > 1 {
				return api.ErrForm
			}
		}
		i += 2 + locals
		if params > locals || at(i) > 1 || at(i+1) == 1000 || at(i+2) == 1000 || at(i+3) == 1000 {
			return api.ErrForm
		}
		n := at(i+2) + 256*at(i+3)
		big = big || params > 4 || locals > 16 || n > 256
		i += 4
		for range n {
			op := at(i)
			if op < 1 || op > 32 {
				return api.ErrForm
			}
			i += 1 + sizes(op)
		}
	}
	if i != len(b) {
		return api.ErrForm
	}
	if big {
		return api.ErrBig
	}
	return api.OK
}

// checkVerdict holds Decode against verdict, and if b is a program, against
// what Encode makes of it.
func checkVerdict(t *testing.T, b []byte) {
	t.Helper()
	p, e := code.Decode(b)
	if e != verdict(b) {
		t.Errorf("Decode(%x) returns %d; want %d", b, int(e), int(verdict(b)))
	}
	if e != api.OK {
		if len(p.Funcs) != 0 {
			t.Errorf("Decode(%x) returns a program beside an error", b)
		}
		return
	}
	if again, f := code.Encode(p); f != api.OK || !bytes.Equal(again, b) {
		t.Errorf("Encode of Decode(%x) returns %x, %d", b, again, int(f))
	}
	if !code.Bounded(p) {
		t.Errorf("Decode(%x) returns a program that exceeds a bound", b)
	}
}

func TestP3_1ChangedBytes(t *testing.T) {
	for _, c := range codeds() {
		if len(c.b) > 100 {
			continue
		}
		for i := range len(c.b) + 1 {
			for x := range 256 {
				checkVerdict(t, slices.Insert(slices.Clone(c.b), i, byte(x)))
				if i < len(c.b) {
					b := slices.Clone(c.b)
					b[i] = byte(x)
					checkVerdict(t, b)
				}
			}
			if i < len(c.b) {
				checkVerdict(t, slices.Delete(slices.Clone(c.b), i, i+1))
			}
		}
	}
}

func TestP3_1LeavesBytesApart(t *testing.T) {
	for _, c := range codeds() {
		store := join(c.b, []byte{24, 24, 24, 24, 24, 24, 24, 24})
		before := slices.Clone(store)
		p, e := code.Decode(store[:len(c.b)])
		if e != api.OK || !bytes.Equal(store, before) {
			t.Errorf("%s: Decode returns %d, or changed the bytes", c.name, int(e))
		}
		fill(store, 0xee)
		if !same(p, c.p) {
			t.Errorf("%s: the program changed with the bytes", c.name)
		}
		spoil(p)
		if slices.ContainsFunc(store, func(x byte) bool { return x != 0xee }) {
			t.Errorf("%s: the bytes changed with the program", c.name)
		}
		checkDecode(t, c.name+", again", c.b, c.p)
	}
}

// spoil writes to all that a program has, spare capacity included.
func spoil(p api.Program) {
	funcs := p.Funcs[:cap(p.Funcs)]
	for i := range funcs {
		fill(funcs[i].Locals[:cap(funcs[i].Locals)], 99)
		fill(funcs[i].Code[:cap(funcs[i].Code)], api.Instr{Op: 99, Arg: 99, Imm: 99})
	}
	fill(funcs, api.Func{Params: 99})
}

// checkListsApart writes to each list of a program, spare capacity included,
// and looks whether another list changes.
func checkListsApart(t *testing.T, name string, p, want api.Program) {
	t.Helper()
	for i := range p.Funcs {
		f := &p.Funcs[i]
		locals, instrs := slices.Clone(f.Locals), slices.Clone(f.Code)
		fill(f.Locals[:cap(f.Locals)], 99)
		copy(f.Locals, locals)
		if !same(p, want) {
			t.Errorf("%s: the locals of function %d share memory", name, i)
		}
		fill(f.Code[:cap(f.Code)], api.Instr{Op: 99})
		copy(f.Code, instrs)
		if !same(p, want) {
			t.Errorf("%s: the instructions of function %d share memory", name, i)
		}
	}
}

func TestP3_1ListsAreApart(t *testing.T) {
	for _, c := range codeds() {
		p, _ := code.Decode(c.b)
		checkListsApart(t, c.name, p, c.p)
	}
}

func TestP3_2Encode(t *testing.T) {
	for _, c := range codeds() {
		checkEncode(t, c.name, c.p, c.b)
	}
}

func TestP3_2BoundsAreNotChecked(t *testing.T) {
	for _, c := range beyond() {
		checkEncode(t, c.name, c.p, c.b)
	}
}

func TestP3_2NumberOfFunctions(t *testing.T) {
	checkNoEncode(t, "nil", api.Program{})
	checkNoEncode(t, "no function", api.Program{Funcs: []api.Func{}})
	one := []byte{0, 0, 0, 255, 0, 0}
	for _, n := range []int{1, 2, 254, 255} {
		checkEncode(t, "functions", program(repeat(body(), n)...), join([]byte{0x57, 0x4c, byte(n)}, bytes.Repeat(one, n)))
	}
	for _, n := range []int{256, 257, 511, 512, 65536, 65537} {
		checkNoEncode(t, "more than 255 functions", program(repeat(body(), n)...))
	}
}

// everywhere is f alone, and as the first and the last of several functions.
func everywhere(f api.Func) []api.Program {
	return []api.Program{program(f), program(f, body()), program(body(), f), program(body(), f, body())}
}

func checkFunc(t *testing.T, name string, f api.Func, want ...byte) {
	t.Helper()
	plain := []byte{0, 0, 0, 255, 0, 0}
	list := everywhere(f)
	checkEncode(t, name, list[0], join([]byte{0x57, 0x4c, 1}, want))
	checkEncode(t, name, list[1], join([]byte{0x57, 0x4c, 2}, want, plain))
	checkEncode(t, name, list[2], join([]byte{0x57, 0x4c, 2}, plain, want))
	checkEncode(t, name, list[3], join([]byte{0x57, 0x4c, 3}, plain, want, plain))
}

func checkNoFunc(t *testing.T, name string, f api.Func) {
	t.Helper()
	for _, p := range everywhere(f) {
		checkNoEncode(t, name, p)
	}
}

const (
	least int = -1 << 63
	most  int = 1<<63 - 1
)

func TestP3_2Params(t *testing.T) {
	for _, locals := range []int{0, 1, 2, 16, 17, 255} {
		for _, params := range []int{0, 1, locals - 1, locals} {
			if params < 0 || params > locals {
				continue
			}
			want := join([]byte{byte(params), byte(locals)}, make([]byte, locals), []byte{0, 255, 0, 0})
			checkFunc(t, "parameters", api.Func{Params: params, Locals: repeat(api.Num, locals), Keep: -1}, want...)
		}
		for _, params := range []int{-1, -2, -255, -256, least, locals + 1, locals + 2, 256, 257, locals + 256, 65536, 1 << 32, most} {
			checkNoFunc(t, "other parameters", api.Func{Params: params, Locals: repeat(api.Num, locals), Keep: -1})
		}
	}
}

func TestP3_2NumberOfLocals(t *testing.T) {
	for _, n := range []int{0, 1, 16, 17, 254, 255} {
		want := join([]byte{0, byte(n)}, repeat(byte(1), n), []byte{0, 255, 0, 0})
		checkFunc(t, "locals", api.Func{Locals: repeat(api.Ptr, n), Keep: -1}, want...)
	}
	for _, n := range []int{256, 257, 511, 512, 65536} {
		checkNoFunc(t, "more than 255 locals", api.Func{Locals: repeat(api.Num, n), Keep: -1})
	}
}

func TestP3_2KindsOfLocals(t *testing.T) {
	for at := range 3 {
		for k := range 256 {
			kinds := []api.Kind{api.Ptr, api.Ptr, api.Ptr}
			kinds[at] = api.Kind(k)
			f := api.Func{Locals: kinds, Keep: -1}
			if k > 1 {
				checkNoFunc(t, "a kind that is neither", f)
				continue
			}
			checkFunc(t, "kinds", f, 0, 3, byte(kinds[0]), byte(kinds[1]), byte(kinds[2]), 0, 255, 0, 0)
		}
	}
}

func TestP3_2Keep(t *testing.T) {
	for keep := -1; keep < 255; keep++ {
		checkFunc(t, "a Keep", api.Func{Keep: keep}, 0, 0, 0, byte(keep), 0, 0)
	}
	for _, keep := range []int{-2, -3, -256, -257, least, 255, 256, 257, 510, 511, 65535, 1 << 32, 1<<32 - 1, most} {
		checkNoFunc(t, "another Keep", api.Func{Keep: keep})
	}
}

func TestP3_2NumberOfInstructions(t *testing.T) {
	for _, n := range []int{0, 1, 255, 256, 257, 511, 512, 65534, 65535} {
		want := join([]byte{0, 0, 0, 255, byte(n), byte(n >> 8)}, repeat(byte(32), n))
		checkFunc(t, "instructions", body(repeat(api.Instr{Op: api.Dup}, n)...), want...)
	}
	for _, n := range []int{65536, 65537, 131072} {
		checkNoFunc(t, "more than 65535 instructions", body(repeat(api.Instr{Op: api.Dup}, n)...))
	}
}

// among is an instruction alone, and as the first and the last of several ones.
func among(i api.Instr) []api.Func {
	ret := api.Instr{Op: api.Ret}
	return []api.Func{body(i), body(i, ret), body(ret, i), body(ret, i, ret)}
}

func checkInstr(t *testing.T, i api.Instr, want ...byte) {
	t.Helper()
	list := among(i)
	checkFunc(t, "an instruction", list[0], join([]byte{0, 0, 0, 255, 1, 0}, want)...)
	checkFunc(t, "an instruction", list[1], join([]byte{0, 0, 0, 255, 2, 0}, want, []byte{24})...)
	checkFunc(t, "an instruction", list[2], join([]byte{0, 0, 0, 255, 2, 0, 24}, want)...)
	checkFunc(t, "an instruction", list[3], join([]byte{0, 0, 0, 255, 3, 0, 24}, want, []byte{24})...)
}

func checkNoInstr(t *testing.T, list ...api.Instr) {
	t.Helper()
	for _, i := range list {
		for _, f := range among(i) {
			checkNoFunc(t, "an instruction that has no bytes", f)
		}
	}
}

func TestP3_2Operations(t *testing.T) {
	for op := range 256 {
		i := api.Instr{Op: api.Op(op)}
		if op < 1 || op > 32 {
			checkNoInstr(t, i)
			continue
		}
		checkInstr(t, i, join([]byte{byte(op)}, make([]byte, sizes(op)))...)
	}
}

func TestP3_2Args(t *testing.T) {
	for op := 1; op <= 32; op++ {
		var fit, other []int
		switch {
		case sizes(op) == 1:
			fit, other = []int{0, 1, 2, 127, 128, 254, 255}, []int{256, 257, 511, 512, 65535, 65536}
		case sizes(op) == 2:
			fit, other = []int{0, 1, 255, 256, 257, 258, 32768, 65534, 65535}, []int{65536, 65537, 131071, 131072}
		default:
			fit, other = []int{0}, []int{1, 2, 255, 256, 65535, 65536}
		}
		for _, arg := range fit {
			want := []byte{byte(op), byte(arg), byte(arg >> 8), 0, 0, 0, 0, 0, 0}
			checkInstr(t, api.Instr{Op: api.Op(op), Arg: arg}, want[:1+sizes(op)]...)
		}
		for _, arg := range append(other, -1, -2, -255, -256, -65536, -1<<32, least, 1<<32, 1<<56, most) {
			checkNoInstr(t, api.Instr{Op: api.Op(op), Arg: arg})
		}
	}
}

func TestP3_2Imms(t *testing.T) {
	for op := 1; op <= 32; op++ {
		for i := range 64 {
			for _, v := range []uint64{1 << i, 1<<(i+1) - 1} {
				x := api.Instr{Op: api.Op(op), Imm: v}
				if x.Op != api.Const {
					checkNoInstr(t, x)
					continue
				}
				checkInstr(t, x, 1, byte(v), byte(v>>8), byte(v>>16), byte(v>>24), byte(v>>32), byte(v>>40), byte(v>>48), byte(v>>56))
			}
		}
	}
	checkInstr(t, api.Instr{Op: api.Const, Imm: 0x0123456789abcdef}, 1, 0xef, 0xcd, 0xab, 0x89, 0x67, 0x45, 0x23, 0x01)
	checkNoInstr(t, api.Instr{Op: api.Const, Arg: 1, Imm: 1})
}

// TestP3_2DecodeOfEncode makes programs within all bounds, as a row of numbers
// says that is the same in each run.
func TestP3_2DecodeOfEncode(t *testing.T) {
	row := rand.New(rand.NewSource(3))
	for range 400 {
		p := someProgram(row)
		b, e := code.Encode(p)
		if e != api.OK || verdict(b) != api.OK {
			t.Fatalf("Encode(%v) returns %x, %d", p, b, int(e))
		}
		checkDecode(t, "Decode of Encode", b, p)
	}
}

func someProgram(row *rand.Rand) api.Program {
	var p api.Program
	for range 1 + row.Intn(16) {
		f := api.Func{Result: row.Intn(2) == 1, Keep: row.Intn(256) - 1}
		for range row.Intn(17) {
			f.Locals = append(f.Locals, api.Kind(row.Intn(2)))
		}
		f.Params = row.Intn(min(4, len(f.Locals)) + 1)
		for range row.Intn(257) {
			f.Code = append(f.Code, someInstr(row))
		}
		p.Funcs = append(p.Funcs, f)
	}
	return p
}

func someInstr(row *rand.Rand) api.Instr {
	i := api.Instr{Op: api.Op(1 + row.Intn(32))}
	switch sizes(int(i.Op)) {
	case 1:
		i.Arg = row.Intn(1 << 8)
	case 2:
		i.Arg = row.Intn(1 << 16)
	case 8:
		i.Imm = row.Uint64()
	}
	return i
}

func TestP3_2LeavesTheProgramApart(t *testing.T) {
	for _, c := range codeds() {
		p, spare := spared(c.p)
		b, e := code.Encode(p)
		if e != api.OK || !same(p, c.p) || !spare() {
			t.Errorf("%s: Encode returns %d, or changed the program", c.name, int(e))
		}
		fill(b[:cap(b)], 0xee)
		if !same(p, c.p) || !spare() {
			t.Errorf("%s: the program changed with the bytes", c.name)
		}
		checkEncode(t, c.name+", again", p, c.b)
	}
}

// spared is a program whose lists have spare capacity, and a function that says
// whether that is as it was.
func spared(p api.Program) (api.Program, func() bool) {
	const room = 5
	q := api.Program{Funcs: append(slices.Clone(p.Funcs), repeat(api.Func{Params: 77}, room)...)}
	for i := range p.Funcs {
		f := &q.Funcs[i]
		f.Locals = append(slices.Clone(f.Locals), repeat(api.Kind(77), room)...)[:len(f.Locals)]
		f.Code = append(slices.Clone(f.Code), repeat(api.Instr{Op: 77}, room)...)[:len(f.Code)]
	}
	q.Funcs = q.Funcs[:len(p.Funcs)]
	return q, func() bool {
		for _, f := range q.Funcs {
			n, m := len(f.Locals), len(f.Code)
			if !slices.Equal(f.Locals[n:n+room], repeat(api.Kind(77), room)) || !slices.Equal(f.Code[m:m+room], repeat(api.Instr{Op: 77}, room)) {
				return false
			}
		}
		n := len(q.Funcs)
		return same(api.Program{Funcs: q.Funcs[n : n+room]}, program(repeat(api.Func{Params: 77}, room)...))
	}
}

func checkBounded(t *testing.T, name string, want bool, f api.Func) {
	t.Helper()
	for _, p := range everywhere(f) {
		if got := code.Bounded(p); got != want {
			t.Errorf("%s: Bounded = %v", name, got)
		}
	}
}

func TestP3_3Bounded(t *testing.T) {
	for _, c := range codeds() {
		if !code.Bounded(c.p) {
			t.Errorf("%s: not Bounded", c.name)
		}
	}
	for _, c := range beyond() {
		if code.Bounded(c.p) {
			t.Errorf("%s: Bounded", c.name)
		}
	}
	if !code.Bounded(api.Program{}) || !code.Bounded(api.Program{Funcs: []api.Func{}}) {
		t.Errorf("no function: not Bounded")
	}
}

func TestP3_3BoundedEachBound(t *testing.T) {
	for n := range 300 {
		if got := code.Bounded(program(repeat(body(), n)...)); got != (n <= 16) {
			t.Errorf("%d functions: Bounded = %v", n, got)
		}
		checkBounded(t, "parameters", n <= 4, api.Func{Params: n, Locals: repeat(api.Num, min(n, 16)), Keep: -1})
		checkBounded(t, "locals", n <= 16, api.Func{Locals: repeat(api.Num, n), Keep: -1})
		checkBounded(t, "instructions", n <= 256, body(repeat(api.Instr{Op: api.Ret}, n)...))
	}
	checkBounded(t, "the most parameters", false, api.Func{Params: most})
	checkBounded(t, "65536 locals", false, api.Func{Locals: repeat(api.Num, 65536)})
	checkBounded(t, "65536 instructions", false, body(repeat(api.Instr{Op: api.Ret}, 65536)...))
}

// TestP3_3BoundedAsksForNoMore has programs without bytes that exceed no bound.
func TestP3_3BoundedAsksForNoMore(t *testing.T) {
	for _, f := range []api.Func{
		{Params: -1}, {Params: least}, {Params: 4}, {Keep: 255}, {Keep: most}, {Keep: -2},
		{Locals: []api.Kind{2, 255}},
		body(api.Instr{Op: 0}, api.Instr{Op: 33, Arg: -1}, api.Instr{Op: api.Get, Arg: 256, Imm: 1}),
	} {
		checkBounded(t, "no bound exceeded", true, f)
	}
}

// shapes are programs of which no two are the same.
func shapes() []api.Program {
	one := api.Instr{Op: api.Get, Arg: 1}
	f := api.Func{Params: 1, Locals: []api.Kind{api.Num, api.Ptr}, Keep: 0, Code: []api.Instr{one, {Op: api.Const, Imm: 5}}}
	with := func(change func(*api.Func)) api.Program {
		p := program(code.Copy(program(f)).Funcs[0], body())
		change(&p.Funcs[0])
		return p
	}
	return []api.Program{
		{},
		program(api.Func{}),
		program(body()),
		program(body(), body()),
		program(f),
		program(body(), f),
		program(f, f),
		with(func(f *api.Func) {}),
		with(func(f *api.Func) { f.Params = 0 }),
		with(func(f *api.Func) { f.Params = -1 }),
		with(func(f *api.Func) { f.Params = 1 + 1<<32 }),
		with(func(f *api.Func) { f.Locals[0] = api.Ptr }),
		with(func(f *api.Func) { f.Locals[1] = api.Num }),
		with(func(f *api.Func) { f.Locals[1] = 2 }),
		with(func(f *api.Func) { f.Locals = f.Locals[:1] }),
		with(func(f *api.Func) { f.Locals = append(f.Locals, api.Num) }),
		with(func(f *api.Func) { f.Locals = nil }),
		with(func(f *api.Func) { f.Result = true }),
		with(func(f *api.Func) { f.Keep = 1 }),
		with(func(f *api.Func) { f.Keep = -1 }),
		with(func(f *api.Func) { f.Keep = 255 }),
		with(func(f *api.Func) { f.Code[0].Op = api.Set }),
		with(func(f *api.Func) { f.Code[1].Op = api.Get }),
		with(func(f *api.Func) { f.Code[0].Arg = 0 }),
		with(func(f *api.Func) { f.Code[0].Arg = 257 }),
		with(func(f *api.Func) { f.Code[1].Arg = -1 }),
		with(func(f *api.Func) { f.Code[0].Imm = 1 }),
		with(func(f *api.Func) { f.Code[1].Imm = 4 }),
		with(func(f *api.Func) { f.Code[1].Imm = 5 + 1<<63 }),
		with(func(f *api.Func) { f.Code = f.Code[:1] }),
		with(func(f *api.Func) { f.Code = f.Code[1:] }),
		with(func(f *api.Func) { f.Code = append(f.Code, one) }),
		with(func(f *api.Func) { f.Code = nil }),
	}
}

func TestP3_3Same(t *testing.T) {
	for i, a := range shapes() {
		for j, b := range shapes() {
			if got := code.Same(a, b); got != (i == j) {
				t.Errorf("Same of programs %d and %d = %v", i, j, got)
			}
		}
	}
}

func TestP3_3SameLooksAtEachFunction(t *testing.T) {
	for i := range 16 {
		a, b := allBoundsMet(), allBoundsMet()
		b.Funcs[i].Keep++
		if code.Same(a, b) || code.Same(b, a) {
			t.Errorf("function %d differs, and the programs are the same", i)
		}
		if code.Same(a, program(a.Funcs[:i]...)) || code.Same(program(a.Funcs[:i]...), a) {
			t.Errorf("a program is the same as its first %d functions", i)
		}
	}
}

func TestP3_3SameOfNilAndEmpty(t *testing.T) {
	for _, c := range [][2]api.Program{
		{{}, {Funcs: []api.Func{}}},
		{program(api.Func{}), program(api.Func{Locals: []api.Kind{}})},
		{program(api.Func{}), program(api.Func{Code: []api.Instr{}})},
		{program(api.Func{Locals: []api.Kind{}}), program(api.Func{Code: []api.Instr{}})},
	} {
		if !code.Same(c[0], c[1]) || !code.Same(c[1], c[0]) || !code.Same(c[0], c[0]) || !code.Same(c[1], c[1]) {
			t.Errorf("Same(%v, %v) = false", c[0], c[1])
		}
	}
}

func TestP3_3SameLeavesSpareCapacityOut(t *testing.T) {
	for _, c := range codeds() {
		p, spare := spared(c.p)
		if !code.Same(p, c.p) || !code.Same(c.p, p) || !spare() {
			t.Errorf("%s: not the same with spare capacity, or changed", c.name)
		}
	}
}

func TestP3_3Copy(t *testing.T) {
	list := shapes()
	for _, c := range slices.Concat(codeds(), beyond()) {
		list = append(list, c.p)
	}
	for i, p := range list {
		if q := code.Copy(p); !same(p, q) || !code.Same(p, q) {
			t.Errorf("program %d: its copy is another one", i)
		}
	}
}

func TestP3_3CopyIsApart(t *testing.T) {
	for _, c := range codeds() {
		p, spare := spared(c.p)
		q := code.Copy(p)
		if !same(p, c.p) || !spare() {
			t.Errorf("%s: Copy changed the program", c.name)
		}
		checkListsApart(t, c.name, q, c.p)
		spoil(p)
		if !same(q, c.p) {
			t.Errorf("%s: the copy changed with the program", c.name)
		}
		p, spare = spared(c.p)
		q = code.Copy(p)
		spoil(q)
		if !same(p, c.p) || !spare() {
			t.Errorf("%s: the program changed with the copy", c.name)
		}
	}
}

// TestP3_3CopyOfSharedLists has a program whose functions share their lists: its
// copy's do not.
func TestP3_3CopyOfSharedLists(t *testing.T) {
	p := allBoundsMet() // by repeat: one list of locals, and one of instructions
	checkListsApart(t, "shared lists", code.Copy(p), allBoundsMet())
	q := code.Copy(p)
	q.Funcs[0].Locals[0], q.Funcs[0].Code[0].Arg = api.Num, 4
	if !same(program(q.Funcs[1:]...), program(allBoundsMet().Funcs[1:]...)) {
		t.Errorf("functions of a copy share lists")
	}
}

// TestP3_3CopyOfEmptyLists has empty lists with spare capacity.
func TestP3_3CopyOfEmptyLists(t *testing.T) {
	p, spare := spared(program(api.Func{}, api.Func{}))
	q := code.Copy(p)
	spoil(q)
	for i := range p.Funcs {
		p.Funcs[i].Locals = append(p.Funcs[i].Locals, 77)[:0]
		p.Funcs[i].Code = append(p.Funcs[i].Code, api.Instr{Op: 77})[:0]
	}
	if !spare() {
		t.Errorf("a copy's empty list has the program's spare capacity")
	}
	none, spareNone := spared(api.Program{})
	spoil(code.Copy(none))
	if !spareNone() {
		t.Errorf("a copy without functions has the program's spare capacity")
	}
}

// FuzzDecode holds Decode against the grammar.
func FuzzDecode(f *testing.F) {
	for _, c := range codeds() {
		f.Add(c.b)
	}
	f.Fuzz(func(t *testing.T, b []byte) { checkVerdict(t, b) })
}

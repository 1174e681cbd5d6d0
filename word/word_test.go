package word_test

import (
	"bytes"
	"math"
	"math/big"
	"strconv"
	"testing"

	"windlass/api"
	"windlass/word"
)

const (
	least    uint64 = 1 << 63   // the least number in two's complement
	greatest uint64 = 1<<63 - 1 // the greatest one
	minus1   uint64 = 1<<64 - 1 // -1, and the greatest unsigned number
	minus2   uint64 = 1<<64 - 2 // -2
	minus7   uint64 = 1<<64 - 7 // -7
	mixed    uint64 = 0x0123456789abcdef
)

// edges are words at which an operation may go wrong.
func edges() []uint64 {
	return []uint64{
		0, 1, 2, 3, 7, 8, 62, 63, 64, 65, 127, 128, 255, 256,
		1<<31 - 1, 1 << 31, 1<<32 - 1, 1 << 32, 1<<32 + 1, 1 << 62,
		greatest - 1, greatest, least, least + 1,
		mixed, ^mixed, api.Poison,
		minus7, minus2 - 1, minus2, minus1,
	}
}

type doCase struct {
	op      api.Op
	a, b, w uint64
}

func checkDo(t *testing.T, cases []doCase) {
	t.Helper()
	for _, c := range cases {
		v, e := word.Do(c.op, c.a, c.b)
		if v != c.w || e != api.OK {
			t.Errorf("Do(%d, %#x, %#x) = %#x, %d; want %#x, OK", c.op, c.a, c.b, v, int(e), c.w)
		}
	}
}

func TestP1_1Ordinary(t *testing.T) {
	checkDo(t, []doCase{
		{api.Add, 3, 4, 7},
		{api.Sub, 9, 4, 5},
		{api.Mul, 6, 7, 42},
		{api.Div, 17, 5, 3},
		{api.Rem, 17, 5, 2},
		{api.And, 12, 10, 8},
		{api.Or, 12, 10, 14},
		{api.Xor, 12, 10, 6},
		{api.Shl, 3, 4, 48},
		{api.Shr, 48, 4, 3},
		{api.Sar, 48, 4, 3},
		{api.Eq, 5, 5, 1},
		{api.Eq, 5, 6, 0},
		{api.Lt, 5, 6, 1},
		{api.Lt, 6, 5, 0},
		{api.Lt, 5, 5, 0},
		{api.Below, 5, 6, 1},
		{api.Below, 6, 5, 0},
		{api.Below, 5, 5, 0},
	})
}

func TestP1_1WrapsRound(t *testing.T) {
	checkDo(t, []doCase{
		{api.Add, minus1, 1, 0},
		{api.Add, greatest, 1, least},
		{api.Sub, 0, 1, minus1},
		{api.Sub, least, 1, greatest},
		{api.Mul, 1 << 32, 1 << 32, 0},
		{api.Mul, minus1, minus1, 1},
		{api.Mul, least, minus1, least},
	})
}

func TestP1_1Divides(t *testing.T) {
	checkDo(t, []doCase{
		{api.Div, 7, minus2, minus2 - 1}, // 7 / -2 = -3
		{api.Rem, 7, minus2, 1},
		{api.Div, minus7, 2, minus2 - 1}, // -7 / 2 = -3
		{api.Rem, minus7, 2, minus1},
		{api.Div, minus7, minus2, 3},
		{api.Rem, minus7, minus2, minus1},
		{api.Div, minus1, 2, 0},
		{api.Rem, minus1, 2, minus1},
		{api.Rem, minus7, 7, 0},
		{api.Div, least, minus1, least},
		{api.Rem, least, minus1, 0},
		{api.Div, least, 1, least},
		{api.Rem, least, 1, 0},
		{api.Div, least, least, 1},
		{api.Div, greatest, minus1, least + 1},
		{api.Div, 0, least, 0},
		{api.Rem, greatest, least, greatest},
	})
}

func TestP1_1DividesByZero(t *testing.T) {
	for _, op := range []api.Op{api.Div, api.Rem} {
		for _, a := range edges() {
			if v, e := word.Do(op, a, 0); v != 0 || e != api.ErrZero {
				t.Errorf("Do(%d, %#x, 0) = %#x, %d; want 0, ErrZero", op, a, v, int(e))
			}
		}
	}
}

func TestP1_1Shifts(t *testing.T) {
	checkDo(t, []doCase{
		{api.Shl, mixed, 0, mixed},
		{api.Shr, mixed, 0, mixed},
		{api.Sar, ^mixed, 0, ^mixed},
		{api.Shl, 1, 63, least},
		{api.Shl, minus1, 63, least},
		{api.Shr, minus1, 63, 1},
		{api.Sar, least, 63, minus1},
		{api.Sar, greatest, 63, 0},
		{api.Sar, greatest, 62, 1},
		{api.Shr, least, 1, 1 << 62},
		{api.Sar, least, 1, 3 << 62},
	})
	for _, count := range []uint64{64, 65, 127, 128, 200, 255, 256, 257, 1 << 31, 1 << 32, 1<<32 + 1, greatest, least, least + 1, minus1} {
		checkDo(t, []doCase{
			{api.Shl, 1, count, 0},
			{api.Shl, minus1, count, 0},
			{api.Shr, 1, count, 0},
			{api.Shr, minus1, count, 0},
			{api.Sar, least, count, minus1},
			{api.Sar, minus1, count, minus1},
			{api.Sar, greatest, count, 0},
			{api.Sar, 1, count, 0},
		})
	}
}

func TestP1_1ComparesByTheTopmostBit(t *testing.T) {
	checkDo(t, []doCase{
		{api.Lt, minus1, 0, 1},
		{api.Below, minus1, 0, 0},
		{api.Lt, 0, minus1, 0},
		{api.Below, 0, minus1, 1},
		{api.Lt, least, greatest, 1},
		{api.Below, least, greatest, 0},
		{api.Lt, greatest, least, 0},
		{api.Below, greatest, least, 1},
		{api.Lt, minus2, minus1, 1},
		{api.Below, minus2, minus1, 1},
		{api.Lt, least, minus1, 1},
		{api.Below, minus1, least, 0},
		{api.Lt, least, least, 0},
		{api.Below, minus1, minus1, 0},
		{api.Eq, least, least, 1},
		{api.Eq, least, 0, 0},
		{api.Eq, 1, 1 << 32, 0},
		{api.Eq, mixed, mixed ^ 1, 0},
	})
}

// TestP1_1AgainstBigNumbers holds every operation, on all pairs of edges,
// against numbers without a bound.
func TestP1_1AgainstBigNumbers(t *testing.T) {
	for op := api.Add; op <= api.Below; op++ {
		for _, a := range edges() {
			for _, b := range edges() {
				if b == 0 && (op == api.Div || op == api.Rem) {
					continue
				}
				checkDo(t, []doCase{{op, a, b, expected(op, a, b)}})
			}
		}
	}
}

func expected(op api.Op, a, b uint64) uint64 {
	x, y, r := new(big.Int).SetUint64(a), new(big.Int).SetUint64(b), new(big.Int)
	sx, sy := signed(a), signed(b)
	switch op {
	case api.Add:
		r.Add(x, y)
	case api.Sub:
		r.Sub(x, y)
	case api.Mul:
		r.Mul(x, y)
	case api.Div:
		r.Quo(sx, sy)
	case api.Rem:
		r.Rem(sx, sy)
	case api.And:
		r.And(x, y)
	case api.Or:
		r.Or(x, y)
	case api.Xor:
		r.Xor(x, y)
	case api.Shl:
		r.Lsh(x, uint(min(b, 64)))
	case api.Shr:
		r.Rsh(x, uint(min(b, 64)))
	case api.Sar:
		r.Rsh(sx, uint(min(b, 63)))
	case api.Eq:
		r.SetInt64(truth(x.Cmp(y) == 0))
	case api.Lt:
		r.SetInt64(truth(sx.Cmp(sy) < 0))
	case api.Below:
		r.SetInt64(truth(x.Cmp(y) < 0))
	}
	modulus := new(big.Int).Lsh(big.NewInt(1), 64)
	return r.Mod(r, modulus).Uint64()
}

func signed(v uint64) *big.Int {
	x := new(big.Int).SetUint64(v)
	if v >= least {
		x.Sub(x, new(big.Int).Lsh(big.NewInt(1), 64))
	}
	return x
}

func truth(holds bool) int64 {
	if holds {
		return 1
	}
	return 0
}

func TestP1_1OtherOperations(t *testing.T) {
	operands := [][2]uint64{{0, 0}, {1, 0}, {1, 1}, {7, 2}, {minus1, minus1}, {least, minus1}}
	for i := range 256 {
		op := api.Op(i)
		if op >= api.Add && op <= api.Below {
			if _, e := word.Do(op, 7, 2); e != api.OK {
				t.Errorf("Do(%d, 7, 2) answers %d", op, int(e))
			}
			continue
		}
		for _, x := range operands {
			if v, e := word.Do(op, x[0], x[1]); v != 0 || e != api.ErrArg {
				t.Errorf("Do(%d, %#x, %#x) = %#x, %d; want 0, ErrArg", op, x[0], x[1], v, int(e))
			}
		}
	}
}

func TestP1_2PutBytes(t *testing.T) {
	for _, x := range []struct {
		name string
		b    []byte
		v    uint64
		want []byte
	}{
		{"nil", nil, 258, []byte{2, 1, 0, 0, 0, 0, 0, 0}},
		{"empty", []byte{}, 0, make([]byte, 8)},
		{"each byte in its place", nil, mixed, []byte{0xef, 0xcd, 0xab, 0x89, 0x67, 0x45, 0x23, 0x01}},
		{"all bits", nil, minus1, []byte{255, 255, 255, 255, 255, 255, 255, 255}},
		{"topmost bit", nil, least, []byte{0, 0, 0, 0, 0, 0, 0, 0x80}},
		{"one byte before", []byte{9}, 258, []byte{9, 2, 1, 0, 0, 0, 0, 0, 0}},
		{"a word before", []byte{1, 2, 3, 4, 5, 6, 7, 8}, 9, []byte{1, 2, 3, 4, 5, 6, 7, 8, 9, 0, 0, 0, 0, 0, 0, 0}},
	} {
		if got := word.Put(x.b, x.v); !bytes.Equal(got, x.want) {
			t.Errorf("%s: Put(%v, %#x) = %v; want %v", x.name, x.b, x.v, got, x.want)
		}
	}
}

// TestP1_2PutIsApart writes on either side, spare capacity included, and looks
// whether the other side sees it.
func TestP1_2PutIsApart(t *testing.T) {
	for _, length := range []int{0, 1, 3, 8, 40} {
		for _, spare := range []int{0, 1, 7, 8, 9, 64} {
			name := strconv.Itoa(length) + " and " + strconv.Itoa(spare) + " spare"
			store := bytes.Repeat([]byte{0xee}, length+spare)
			before := bytes.Clone(store)
			got := word.Put(store[:length], mixed)
			if !bytes.Equal(store, before) {
				t.Errorf("%s: Put changed its argument: %v", name, store)
			}
			want := bytes.Clone(got)
			fill(store, 0x11)
			if !bytes.Equal(got, want) {
				t.Errorf("%s: the result is the argument's memory", name)
			}
			fill(store, 0xee)
			fill(got[:cap(got)], 0x22)
			if !bytes.Equal(store, before) {
				t.Errorf("%s: the result's memory is the argument's", name)
			}
		}
	}
}

func fill(b []byte, v byte) {
	for i := range b {
		b[i] = v
	}
}

func TestP1_2ResultsAreApart(t *testing.T) {
	first := word.Put(nil, 1)
	second := word.Put(nil, 2)
	fill(first[:cap(first)], 0x33)
	if third := word.Put(nil, 3); !bytes.Equal(second, []byte{2, 0, 0, 0, 0, 0, 0, 0}) || !bytes.Equal(third, []byte{3, 0, 0, 0, 0, 0, 0, 0}) {
		t.Errorf("results share memory: %v, %v", second, third)
	}
	longer, other := word.Put(second, 4), word.Put(second, 5)
	if longer[8] != 4 || other[8] != 5 {
		t.Errorf("words behind the same bytes share memory: %v, %v", longer, other)
	}
}

func TestP1_2Take(t *testing.T) {
	b := make([]byte, 20)
	for i := range b {
		b[i] = byte(0xf0 + i)
	}
	for at := range 13 { // 12 is the last offset at which eight bytes exist
		var want uint64
		for i := 7; i >= 0; i-- {
			want = want*256 + uint64(b[at+i])
		}
		if v, ok := word.Take(b, at); v != want || !ok {
			t.Errorf("Take(.., %d) = %#x, %v; want %#x, true", at, v, ok, want)
		}
	}
	for _, at := range []int{13, 14, 19, 20, 21, 28, 1000, -1, -7, -8, -9, -20, math.MaxInt, math.MaxInt - 6, math.MaxInt - 7, math.MaxInt - 8, math.MinInt, math.MinInt + 7, math.MinInt + 8} {
		if v, ok := word.Take(b, at); v != 0 || ok {
			t.Errorf("Take(.., %d) = %#x, %v; want 0, false", at, v, ok)
		}
	}
}

func TestP1_2TakeOfFewBytes(t *testing.T) {
	for length := range 8 {
		store := bytes.Repeat([]byte{0xff}, 32)
		for at := -9; at < 10; at++ { // the bytes behind the length are there, but are not the argument's
			if v, ok := word.Take(store[:length], at); v != 0 || ok {
				t.Errorf("Take of %d bytes at %d = %#x, %v; want 0, false", length, at, v, ok)
			}
		}
	}
	if v, ok := word.Take(nil, 0); v != 0 || ok {
		t.Errorf("Take(nil, 0) = %#x, %v; want 0, false", v, ok)
	}
	if v, ok := word.Take([]byte{0, 0, 0, 0, 0, 0, 0, 0}, 0); v != 0 || !ok {
		t.Errorf("Take of a zero word = %#x, %v; want 0, true", v, ok)
	}
}

func TestP1_2TakeChangesNothing(t *testing.T) {
	store := bytes.Repeat([]byte{0xee}, 24)
	before := bytes.Clone(store)
	for at := -1; at < 20; at++ {
		word.Take(store[:16], at)
	}
	if !bytes.Equal(store, before) {
		t.Errorf("Take changed its argument: %v", store)
	}
}

func TestP1_2TakeWhatWasPut(t *testing.T) {
	var b []byte
	for _, v := range edges() {
		b = word.Put(b, v)
	}
	for i, want := range edges() {
		if v, ok := word.Take(b, 8*i); v != want || !ok {
			t.Errorf("word %d: %#x, %v; want %#x, true", i, v, ok, want)
		}
	}
}

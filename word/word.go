// Package word is layer 1: words of 64 bits.
package word

import (
	"windlass/api"
)

// size of a word in bytes.
const size = 8

// Do an operation. ErrArg, ErrZero.
func Do(op api.Op, a, b uint64) (uint64, api.Errno) {
	switch op {
	case api.Add:
		return a + b, api.OK
	case api.Sub:
		return a - b, api.OK
	case api.Mul:
		return a * b, api.OK
	case api.Div, api.Rem:
		return divide(op, a, b)
	case api.And:
		return a & b, api.OK
	case api.Or:
		return a | b, api.OK
	case api.Xor:
		return a ^ b, api.OK
	case api.Shl, api.Shr, api.Sar:
		return shift(op, a, b), api.OK
	case api.Eq, api.Lt, api.Below:
		return compare(op, a, b), api.OK
	}
	return 0, api.ErrArg
}

// divide needs no case for the least number by -1: Go's division of signed
// numbers wraps there, to the least number itself and a remainder of 0.
func divide(op api.Op, a, b uint64) (uint64, api.Errno) {
	if b == 0 {
		return 0, api.ErrZero
	}
	if op == api.Div {
		return uint64(int64(a) / int64(b)), api.OK
	}
	return uint64(int64(a) % int64(b)), api.OK
}

// shift needs no case for counts beyond 63: Go shifts by any count as if bit by
// bit, so only the filling is left.
func shift(op api.Op, a, b uint64) uint64 {
	switch op {
	case api.Shl:
		return a << b
	case api.Shr:
		return a >> b
	}
	return uint64(int64(a) >> b)
}

func compare(op api.Op, a, b uint64) uint64 {
	holds := a == b
	switch op {
	case api.Lt:
		holds = int64(a) < int64(b)
	case api.Below:
		holds = a < b
	}
	if holds {
		return 1
	}
	return 0
}

// Put a word behind bytes.
func Put(b []byte, v uint64) []byte {
	out := make([]byte, len(b)+size)
	copy(out, b)
	for i := range size {
		out[len(b)+i] = byte(v >> (8 * i))
	}
	return out
}

// Take a word.
func Take(b []byte, at int) (uint64, bool) {
	// at is held against len(b)-size: at+size would wrap for the greatest int.
	if at < 0 || at > len(b)-size {
		return 0, false
	}
	var v uint64
	for i := range size {
		v |= uint64(b[at+i]) << (8 * i)
	}
	return v, true
}

package bits_test

import (
	"math"
	"math/rand"
	"slices"
	"testing"

	"windlass/bits"
)

// script runs calls on two sets, as its bytes tell, and holds each answer
// against plain lists.
type script struct {
	t     testing.TB
	bytes []byte
	sets  [2]*bits.Set
	lists [2]*plain
}

// next byte, or 0 if there is none left.
func (c *script) next() int {
	if len(c.bytes) == 0 {
		return 0
	}
	b := c.bytes[0]
	c.bytes = c.bytes[1:]
	return int(b)
}

func (c *script) size() int {
	switch b := c.next(); {
	case b < 4:
		return []int{math.MinInt, -1, greatest, math.MaxInt}[b]
	case b < 16:
		return 1 << (b % 12) // up to 2048
	default:
		return b - 16 // up to 239
	}
}

// number that is mostly one that the set k can contain.
func (c *script) number(k int) int {
	n := 0
	if c.lists[k] != nil {
		n = c.lists[k].n
	}
	switch b := c.next(); {
	case b < 4:
		return []int{math.MinInt, math.MaxInt, -c.next(), greatest}[b]
	case b < 40:
		return n + b - 22 // around its bound
	case b < 90:
		return c.next()<<12 | c.next()<<4 | b%16 // up to 2^20
	default:
		return c.next() % max(n, 1)
	}
}

func (c *script) step() {
	op, k := c.next(), c.next()%2
	other := k
	if op >= 128 {
		other = 1 - k
	}
	s, p := c.sets[k], c.lists[k]
	u, q := c.sets[other], c.lists[other]
	switch op % 32 {
	case 0:
		n := c.size()
		c.sets[k], c.lists[k] = bits.New(n), newPlain(n)
	case 1:
		if op == 1 {
			c.sets[k], c.lists[k] = nil, nil
		}
	case 2, 3:
		c.sets[k], c.lists[k] = u.Copy(), q.copy()
		if (c.sets[k] == nil) != (q == nil) {
			c.t.Fatal("a copy is nil, or not")
		}
	case 4, 5, 6, 7:
		c.ask("Or", s.Or(u), p.or(q))
	case 8, 9:
		c.ask("Minus", s.Minus(u), p.minus(q))
	case 10, 11, 12, 13:
		i := c.number(k)
		c.ask("Has", s.Has(i), p.has(i))
	case 14, 15, 16, 17, 18, 19:
		i := c.number(k)
		c.ask("Del", s.Del(i), p.del(i))
	default:
		i := c.number(k)
		c.ask("Add", s.Add(i), p.add(i))
	}
}

func (c *script) ask(call string, got, want bool) {
	c.t.Helper()
	if got != want {
		c.t.Fatalf("%s = %v; %v, %v", call, got, c.lists[0], c.lists[1])
	}
}

// run tells how often the sets were the same and not empty, and how many elements
// the first one had in all.
func (c *script) run() (equal, elements int) {
	for k := range 2 {
		n := c.size()
		c.sets[k], c.lists[k] = bits.New(n), newPlain(n)
	}
	for len(c.bytes) > 0 {
		c.step()
		same(c.t, c.sets[0], c.lists[0])
		same(c.t, c.sets[1], c.lists[1])
		want := slices.Equal(c.lists[0].numbers(), c.lists[1].numbers())
		c.ask("Same", bits.Same(c.sets[0], c.sets[1]), want)
		c.ask("Same", bits.Same(c.sets[1], c.sets[0]), want)
		equal += number(want && c.sets[0].Len() > 0)
		elements += c.sets[0].Len()
	}
	return equal, elements
}

func TestP10_2Scripts(t *testing.T) {
	r := rand.New(rand.NewSource(107))
	equal, elements := 0, 0
	for range 10000 {
		b := make([]byte, r.Intn(400))
		r.Read(b)
		c := &script{t: t, bytes: b}
		e, n := c.run()
		equal, elements = equal+e, elements+n
	}
	if equal < 10000 || elements < 500000 {
		t.Errorf("too few: %d times the same, %d elements", equal, elements)
	}
}

func FuzzSets(f *testing.F) {
	f.Add([]byte{70, 200, 100, 0, 150, 69, 132, 0, 130, 1, 136, 0})
	f.Fuzz(func(t *testing.T, b []byte) {
		if len(b) > 2000 {
			return
		}
		c := &script{t: t, bytes: b}
		c.run()
	})
}

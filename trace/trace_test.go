package trace_test

import (
	"math/big"
	"regexp"
	"slices"
	"strings"
	"testing"

	"windlass/api"
	"windlass/trace"
)

const greatest uint64 = 1<<64 - 1

func wrote(v uint64) api.Event { return api.Event{Kind: api.Wrote, Value: v} }
func asked(v uint64) api.Event { return api.Event{Kind: api.Asked, Value: v} }

func end(kind api.EndKind, v uint64) api.End { return api.End{Kind: kind, Value: v} }

func checkEvents(t *testing.T, got []api.Event, want ...api.Event) {
	t.Helper()
	if !slices.Equal(got, want) {
		t.Errorf("events %v; want %v", got, want)
	}
}

func checkIn(t *testing.T, x *trace.Trace, want ...uint64) {
	t.Helper()
	for i, w := range want {
		if v := x.In(); v != w {
			t.Errorf("number %d that In returns is %d; want %d", i, v, w)
		}
	}
}

func TestP2_1NewHasNoEvents(t *testing.T) {
	for _, x := range []*trace.Trace{trace.New(), trace.New(0), trace.New(5), trace.New(1, 2, 3), trace.New(nil...), trace.New([]uint64{}...)} {
		if x == nil {
			t.Fatal("New returns nil")
		}
		checkEvents(t, x.Events())
	}
}

func TestP2_1InWithinTheTapeAndAtItsEnd(t *testing.T) {
	x := trace.New(3, 0, greatest, 3)
	checkIn(t, x, 3, 0, greatest, 3, 0)
	checkEvents(t, x.Events(), asked(3), asked(0), asked(greatest), asked(3), asked(0))
}

func TestP2_1InFarBeyondTheTape(t *testing.T) {
	const beyond = 5000
	for _, tape := range [][]uint64{nil, {7}, {7, 8, 9}} {
		x := trace.New(tape...)
		checkIn(t, x, tape...)
		checkIn(t, x, make([]uint64, beyond)...)
		var want []api.Event
		for _, v := range append(slices.Clone(tape), make([]uint64, beyond)...) {
			want = append(want, asked(v))
		}
		if !slices.Equal(x.Events(), want) {
			t.Errorf("tape %v: the events are not %d Asked, 0 behind the tape", tape, len(want))
		}
	}
}

func TestP2_1InWithoutATape(t *testing.T) {
	x := trace.New()
	checkIn(t, x, 0, 0)
	x.Out(4)
	checkIn(t, x, 0)
	checkEvents(t, x.Events(), asked(0), asked(0), wrote(4), asked(0))
}

func TestP2_1Out(t *testing.T) {
	x := trace.New(5)
	x.Out(0)
	x.Out(greatest)
	x.Out(1 << 63)
	x.Out(0)
	checkEvents(t, x.Events(), wrote(0), wrote(greatest), wrote(1<<63), wrote(0))
	checkIn(t, x, 5, 0) // what was written is not read
}

func TestP2_1EventsAreInOrder(t *testing.T) {
	x := trace.New(5)
	checkIn(t, x, 5, 0)
	x.Out(7)
	checkEvents(t, x.Events(), asked(5), asked(0), wrote(7))

	y := trace.New(1, 2)
	y.Out(9)
	checkIn(t, y, 1)
	y.Out(1)
	checkIn(t, y, 2)
	y.Out(8)
	checkIn(t, y, 0)
	want := []api.Event{wrote(9), asked(1), wrote(1), asked(2), wrote(8), asked(0)}
	checkEvents(t, y.Events(), want...)
	checkEvents(t, y.Events(), want...) // to ask for them is no event, and leaves them there
}

func TestP2_1NilTrace(t *testing.T) {
	var x *trace.Trace
	checkEvents(t, x.Events())
	checkIn(t, x, 0, 0)
	x.Out(7)
	checkIn(t, x, 0)
	checkEvents(t, x.Events())
}

func TestP2_1TracesAreApart(t *testing.T) {
	tape := []uint64{1, 2, 3}
	x, y := trace.New(tape...), trace.New(tape...)
	checkIn(t, x, 1, 2)
	checkIn(t, y, 1)
	x.Out(9)
	checkIn(t, y, 2)
	checkEvents(t, x.Events(), asked(1), asked(2), wrote(9))
	checkEvents(t, y.Events(), asked(1), asked(2))
	checkEvents(t, trace.New(tape...).Events())
}

// TestP2_1TapeIsApart writes to the numbers that a trace was made from, and
// looks whether the trace writes to them, spare capacity included.
func TestP2_1TapeIsApart(t *testing.T) {
	for _, spare := range []int{0, 1, 8} {
		store := []uint64{1, 2, 3}
		for range spare {
			store = append(store, 77)
		}
		before := slices.Clone(store)
		x := trace.New(store[:3]...)
		checkIn(t, x, 1)
		x.Out(5)
		if !slices.Equal(store, before) {
			t.Errorf("spare %d: the trace changed the numbers to %v", spare, store)
		}
		fill(store, 99)
		checkIn(t, x, 2, 3, 0, 0)
		x.Out(6)
		checkEvents(t, x.Events(), asked(1), wrote(5), asked(2), asked(3), asked(0), asked(0), wrote(6))
		if slices.ContainsFunc(store, func(v uint64) bool { return v != 99 }) {
			t.Errorf("spare %d: the trace changed the numbers to %v", spare, store)
		}
	}
}

func fill[T any](list []T, v T) {
	for i := range list {
		list[i] = v
	}
}

// TestP2_1EventsAreApart writes to what Events returned, spare capacity
// included, at each length: the trace and what it returns afterwards stay.
func TestP2_1EventsAreApart(t *testing.T) {
	other := api.Event{Kind: 9, Value: 99}
	x := trace.New()
	var want []api.Event
	for i := range 40 {
		first, second := x.Events(), x.Events()
		checkEvents(t, first, want...)
		fill(first[:cap(first)], other)
		checkEvents(t, second, want...)
		checkEvents(t, x.Events(), want...)

		x.Out(uint64(i))
		want = append(want, wrote(uint64(i)))
		if slices.ContainsFunc(first[:cap(first)], func(e api.Event) bool { return e != other }) {
			t.Errorf("event %d: the trace wrote to what Events had returned", i)
		}
		fill(first[:cap(first)], api.Event{})
		checkEvents(t, second, want[:i]...)
		checkEvents(t, x.Events(), want...)
	}
}

// lists are events of which no two are equal, in number, Kind or Value.
func lists() [][]api.Event {
	return [][]api.Event{
		nil,
		{wrote(7)},
		{asked(7)},
		{wrote(8)},
		{wrote(7 + 1<<32)},
		{wrote(7), wrote(7)},
		{wrote(7), asked(7)},
		{asked(7), wrote(7)},
		{wrote(7), wrote(8)},
		{wrote(7), asked(7), wrote(greatest)},
		{wrote(7), asked(7), wrote(0)},
		{{Kind: 0, Value: 0}},
		{{Kind: 3, Value: 7}},
		{{Kind: -1, Value: 7}},
		{wrote(7), {Kind: 3, Value: 7}},
	}
}

func TestP2_2Same(t *testing.T) {
	for i, a := range lists() {
		for j, b := range lists() {
			if got := trace.Same(a, b); got != (i == j) {
				t.Errorf("Same(%v, %v) = %v", a, b, got)
			}
		}
	}
}

func TestP2_2SameFindsEachDifference(t *testing.T) {
	var a []api.Event
	for i := range 9 {
		a = append(a, wrote(uint64(i)))
	}
	for i := range a {
		for _, x := range []api.Event{asked(a[i].Value), wrote(a[i].Value + 1), wrote(a[i].Value + 1<<63)} {
			b := slices.Clone(a)
			b[i] = x
			if trace.Same(a, b) || trace.Same(b, a) || trace.Prefix(a, b) || trace.Prefix(b, a) {
				t.Errorf("event %d is %v instead of %v, and is held for equal", i, x, a[i])
			}
			if !trace.Prefix(a[:i], b) || trace.Prefix(a[:i+1], b) {
				t.Errorf("event %d differs: Prefix of what is before it, %v, and of one more, %v", i, trace.Prefix(a[:i], b), trace.Prefix(a[:i+1], b))
			}
		}
	}
}

func TestP2_2Prefix(t *testing.T) {
	b := []api.Event{wrote(7), asked(7), wrote(greatest), wrote(0)}
	for n := range len(b) + 1 {
		if !trace.Prefix(b[:n], b) || !trace.Prefix(slices.Clone(b[:n]), b) {
			t.Errorf("the first %d events are not held for the first ones", n)
		}
		// The events behind the shorter list are in memory, but are not its own.
		if got := trace.Prefix(b, b[:n]); got != (n == len(b)) {
			t.Errorf("Prefix of %d events in their first %d: %v", len(b), n, got)
		}
	}
	for _, a := range [][]api.Event{
		append(slices.Clone(b), wrote(0)),
		append(slices.Clone(b), api.Event{}),
		{asked(7)},
		{wrote(7), wrote(7)},
		{wrote(7), asked(8)},
		{asked(7), wrote(greatest)},
		{wrote(7), asked(7), wrote(greatest), wrote(1)},
		{{}},
	} {
		if trace.Prefix(a, b) {
			t.Errorf("Prefix(%v, %v)", a, b)
		}
	}
}

func TestP2_2PrefixOfLists(t *testing.T) {
	for _, a := range lists() {
		for _, b := range lists() {
			want := len(a) <= len(b)
			for i := 0; want && i < len(a); i++ {
				want = a[i] == b[i]
			}
			if got := trace.Prefix(a, b); got != want {
				t.Errorf("Prefix(%v, %v) = %v", a, b, got)
			}
		}
	}
}

func TestP2_2NilAndEmpty(t *testing.T) {
	none, one := []api.Event{}, []api.Event{wrote(0)}
	if !trace.Same(nil, none) || !trace.Same(none, nil) || !trace.Same(nil, nil) || !trace.Same(none, none) {
		t.Errorf("nil and empty events are not the same")
	}
	if !trace.Prefix(nil, none) || !trace.Prefix(none, nil) || !trace.Prefix(nil, nil) || !trace.Prefix(nil, one) || !trace.Prefix(none, one) {
		t.Errorf("no events are not the first ones")
	}
	if trace.Prefix(one, nil) || trace.Prefix(one, none) || trace.Same(one, nil) || trace.Same(nil, one) {
		t.Errorf("an event is held for none")
	}
}

func TestP2_2Ended(t *testing.T) {
	for kind := api.EndKind(-2); kind < 10; kind++ {
		for _, v := range []uint64{0, 1, 2, greatest} {
			want := kind == api.Exited || kind == api.Uncaught
			if got := trace.Ended(end(kind, v)); got != want {
				t.Errorf("Ended of kind %d and value %d = %v", kind, v, got)
			}
		}
	}
	for _, kind := range []api.EndKind{1<<32 + api.Exited, 1<<62 + api.Uncaught, -1 << 63} {
		if trace.Ended(end(kind, 0)) {
			t.Errorf("Ended of kind %d", kind)
		}
	}
}

type text struct {
	events []api.Event
	end    api.End
	text   string
}

// texts are what Parse returns, too.
func texts() []text {
	return []text{
		{nil, end(api.Exited, 0), "exit=0"},
		{nil, end(api.Exited, greatest), "exit=18446744073709551615"},
		{nil, end(api.Uncaught, 0), "panic=0"},
		{nil, end(api.Uncaught, api.ByNull), "panic=18446744073709551614"},
		{nil, end(api.NoFuel, 0), "fuel"},
		{nil, end(api.NoStack, 0), "stack"},
		{nil, end(api.Stuck, 0), "stuck"},
		{[]api.Event{wrote(7)}, end(api.Exited, 0), "out=7 exit=0"},
		{[]api.Event{asked(7)}, end(api.Uncaught, 5), "in=7 panic=5"},
		{[]api.Event{wrote(0), wrote(greatest)}, end(api.NoFuel, 0), "out=0 out=18446744073709551615 fuel"},
		{[]api.Event{asked(0), asked(greatest)}, end(api.NoStack, 0), "in=0 in=18446744073709551615 stack"},
		{[]api.Event{asked(10), wrote(100), asked(1 << 63)}, end(api.Stuck, 0), "in=10 out=100 in=9223372036854775808 stuck"},
		{[]api.Event{asked(5), asked(0), wrote(7)}, end(api.Exited, 3), "in=5 in=0 out=7 exit=3"},
	}
}

func checkPrint(t *testing.T, cases []text) {
	t.Helper()
	for _, c := range cases {
		if got := trace.Print(c.events, c.end); got != c.text {
			t.Errorf("Print(%v, %v) = %q; want %q", c.events, c.end, got, c.text)
		}
	}
}

func TestP2_3Print(t *testing.T) {
	checkPrint(t, texts())
	checkPrint(t, []text{
		{[]api.Event{}, end(api.NoFuel, 0), "fuel"},
		{nil, end(api.NoFuel, 7), "fuel"},
		{nil, end(api.NoStack, greatest), "stack"},
		{[]api.Event{wrote(1)}, end(api.Stuck, 1), "out=1 stuck"},
	})
}

func TestP2_3PrintOtherKinds(t *testing.T) {
	for _, kind := range []int{0, 3, 6, 7, -1, -2, 1<<32 + 1, -1 << 63} {
		x := api.Event{Kind: api.EventKind(kind), Value: 4}
		checkPrint(t, []text{{[]api.Event{x}, end(api.Exited, 0), "? exit=0"}, {[]api.Event{wrote(1), x, x, asked(2)}, end(api.Stuck, 0), "out=1 ? ? in=2 stuck"}})
		if kind == 3 { // NoFuel, as an ending
			continue
		}
		e := end(api.EndKind(kind), 4)
		checkPrint(t, []text{{nil, e, "?"}, {[]api.Event{wrote(1)}, e, "out=1 ?"}, {[]api.Event{x}, e, "? ?"}})
	}
	for _, kind := range []api.EventKind{4, 5} { // kinds of endings, not of events
		checkPrint(t, []text{{[]api.Event{{Kind: kind, Value: 4}}, end(api.NoFuel, 0), "? fuel"}})
	}
}

func TestP2_3PrintEachNumberWhole(t *testing.T) {
	for i := range 64 {
		for _, v := range []uint64{1 << i, 1<<i - 1, 1<<i + 1} {
			s := new(big.Int).SetUint64(v).String()
			checkPrint(t, []text{{[]api.Event{wrote(v), asked(v)}, end(api.Exited, v), "out=" + s + " in=" + s + " exit=" + s}, {nil, end(api.Uncaught, v), "panic=" + s}})
			checkParse(t, "out="+s+" in="+s+" panic="+s, []api.Event{wrote(v), asked(v)}, end(api.Uncaught, v))
			checkParse(t, "exit="+s, nil, end(api.Exited, v))
		}
	}
}

func checkParse(t *testing.T, s string, events []api.Event, e api.End) {
	t.Helper()
	l, x, f := trace.Parse(s)
	if !slices.Equal(l, events) || x != e || f != api.OK {
		t.Errorf("Parse(%q) = %v, %v, %d; want %v, %v, OK", s, l, x, int(f), events, e)
	}
}

func checkErrForm(t *testing.T, cases ...string) {
	t.Helper()
	for _, s := range cases {
		l, e, f := trace.Parse(s)
		if f != api.ErrForm || len(l) != 0 || e != (api.End{}) {
			t.Errorf("Parse(%q) = %v, %v, %d; want nothing, ErrForm", s, l, e, int(f))
		}
	}
}

func TestP2_3ParseWhatWasPrinted(t *testing.T) {
	for _, c := range texts() {
		checkParse(t, c.text, c.events, c.end)
	}
}

func TestP2_3ParseManyEvents(t *testing.T) {
	var events []api.Event
	for i := range 3000 {
		events = append(events, wrote(uint64(i)), asked(uint64(i)<<40))
	}
	for _, e := range []api.End{end(api.Exited, 1), end(api.Uncaught, 2), end(api.NoFuel, 0), end(api.NoStack, 0), end(api.Stuck, 0)} {
		checkParse(t, trace.Print(events, e), events, e)
	}
}

func TestP2_3ParseOtherNumbers(t *testing.T) {
	for _, n := range []string{
		"", "00", "01", "07", "007", "010", "00000000000000000000", "018446744073709551615",
		"18446744073709551616", "18446744073709551617", "18446744073709551620", "20000000000000000000",
		"99999999999999999999", "184467440737095516150", "340282366920938463463374607431768211456",
		strings.Repeat("9", 5000), strings.Repeat("0", 5000), strings.Repeat("0", 5000) + "1",
		"+0", "+7", "-0", "-1", "-7", "--7", "0x7", "0b1", "0o7", "1_000", "_1", "1e3", "1.0", "7.", "1,000",
		"a", "f", "7a", "a7", "7=", "=7", "7\n", "\n7", "7\t", "\t7", "7\x00", "٧", "７", "²", "\xff",
	} {
		checkErrForm(t,
			"out="+n+" exit=0", "in="+n+" exit=0", "out=1 in="+n+" fuel", "in="+n+" out=1 stuck",
			"exit="+n, "panic="+n, "out=1 exit="+n, "in=1 panic="+n)
	}
}

func TestP2_3ParseOtherBlanks(t *testing.T) {
	checkErrForm(t, "", " ", "  ", "\n", "\t")
	for _, c := range texts() {
		checkErrForm(t, " "+c.text, c.text+" ", "  "+c.text, c.text+"  ", " "+c.text+" ", "\t"+c.text, c.text+"\t", c.text+"\n", c.text+"\r\n", "\n"+c.text, c.text+"\x00", "\ufeff"+c.text, c.text+"\u00a0")
		if len(c.events) == 0 {
			continue
		}
		for _, other := range []string{"  ", "\t", "\n", "\r", "\v", "\x00", "", ",", ";", "_", "\u00a0", " \n", "\n "} {
			checkErrForm(t, strings.Replace(c.text, " ", other, 1))
			checkErrForm(t, strings.ReplaceAll(c.text, " ", other))
		}
	}
	checkErrForm(t, "out =7 fuel", "out= 7 fuel", "out = 7 fuel", "exit =3", "exit= 3", "in=1 exit= 3")
}

func TestP2_3ParseOtherWords(t *testing.T) {
	checkErrForm(t,
		"?", "? exit=0", "out=1 ?", "out=1 ? exit=0", "? ?",
		"out", "in", "exit", "panic", "out exit=0", "in exit=0", "out=1 exit", "out=1 panic",
		"=7 exit=0", "7 exit=0", "7", "=7", "=", "x=7 exit=0", "x",
		"Out=7 exit=0", "OUT=7 exit=0", "In=7 exit=0", "out=7 Exit=0", "Fuel", "FUEL", "Stack", "Stuck", "PANIC=1",
		"out:7 exit=0", "out==7 exit=0", "out=in=7 exit=0", "exit==0",
		"xout=7 exit=0", "outx=7 exit=0", "ou=7 exit=0", "i=7 exit=0", "inn=7 exit=0", "ins=7 exit=0",
		"exi=0", "exits=0", "xexit=0", "pani=0", "panics=0", "xpanic=0",
		"fue", "fuels", "xfuel", "stac", "stacks", "xstack", "stuc", "stucks", "xstuck", "nofuel", "nostack",
		"wrote=7 exit=0", "asked=7 exit=0", "uncaught=7", "exited=7", "0", "none")
}

func TestP2_3ParseValuesBehindWordsWithout(t *testing.T) {
	for _, w := range []string{"fuel", "stack", "stuck"} {
		checkErrForm(t, w+"=", w+"=0", w+"=7", w+"=18446744073709551615", w+"0", w+" 0", "out=1 "+w+"=0", "out=1 "+w+"=")
	}
}

func TestP2_3ParseEndings(t *testing.T) {
	endings := []string{"exit=0", "exit=3", "panic=0", "panic=3", "fuel", "stack", "stuck"}
	checkErrForm(t, "out=7", "in=7", "out=7 in=7", "out=0", "in=0")
	for _, a := range endings {
		checkErrForm(t, a+" out=7", a+" in=7", "out=7 "+a+" in=7", "in=7 "+a+" out=7")
		for _, b := range endings {
			checkErrForm(t, a+" "+b, "out=7 "+a+" "+b, a+" out=7 "+b, a+b)
		}
	}
}

// TestP2_3ParseChangedTexts changes texts at each byte, and holds Parse against
// the grammar as an expression.
func TestP2_3ParseChangedTexts(t *testing.T) {
	number := `(0|[1-9][0-9]*)`
	grammar := regexp.MustCompile(`\A((out|in)=` + number + ` )*((exit|panic)=` + number + `|fuel|stack|stuck)\z`)
	digits := regexp.MustCompile(`[0-9]+`)
	bound := new(big.Int).Lsh(big.NewInt(1), 64)
	fits := func(s string) bool {
		for _, d := range digits.FindAllString(s, -1) {
			if v, _ := new(big.Int).SetString(d, 10); v.Cmp(bound) >= 0 {
				return false
			}
		}
		return true
	}
	const letters = "0159 =-+?_\n\x00outinexpacfulsk"
	for _, c := range texts() {
		for _, s := range changes(c.text, letters) {
			if !grammar.MatchString(s) || !fits(s) {
				checkErrForm(t, s)
				continue
			}
			l, e, f := trace.Parse(s)
			if f != api.OK || trace.Print(l, e) != s {
				t.Errorf("Parse(%q) = %v, %v, %d, which Print writes as %q", s, l, e, int(f), trace.Print(l, e))
			}
		}
	}
}

// changes are s with a byte less, another one, or one more.
func changes(s, letters string) []string {
	list := []string{s}
	for i := range len(s) + 1 {
		if i < len(s) {
			list = append(list, s[:i]+s[i+1:])
		}
		for _, r := range letters {
			list = append(list, s[:i]+string(r)+s[i:])
			if i < len(s) {
				list = append(list, s[:i]+string(r)+s[i+1:])
			}
		}
	}
	return list
}

func TestP2_3ParseLeavesEventsApart(t *testing.T) {
	const s = "in=5 out=7 exit=3"
	first, _, _ := trace.Parse(s)
	second, _, _ := trace.Parse(s)
	fill(first[:cap(first)], api.Event{Kind: 9, Value: 9})
	checkEvents(t, second, asked(5), wrote(7))
	checkParse(t, s, []api.Event{asked(5), wrote(7)}, end(api.Exited, 3))
}

func TestP2_2And2_3ChangeNoArgument(t *testing.T) {
	store := []api.Event{wrote(1), asked(2), wrote(3), {Kind: 9, Value: 9}, {Kind: 9, Value: 9}}
	before := slices.Clone(store)
	for n := range len(store) + 1 {
		trace.Same(store[:n], store[:3])
		trace.Prefix(store[:n], store[:3])
		trace.Prefix(store[:3], store[:n])
		trace.Print(store[:n], end(api.Exited, 0))
	}
	checkEvents(t, store, before...)
}

func FuzzParse(f *testing.F) {
	for _, c := range texts() {
		f.Add(c.text)
	}
	f.Fuzz(func(t *testing.T, s string) {
		l, e, x := trace.Parse(s)
		if x == api.OK && trace.Print(l, e) != s {
			t.Errorf("Parse(%q) = %v, %v", s, l, e)
		}
		if x != api.OK && (x != api.ErrForm || len(l) != 0 || e != (api.End{})) {
			t.Errorf("Parse(%q) = %v, %v, %d", s, l, e, int(x))
		}
	})
}

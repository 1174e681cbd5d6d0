package irun_test

import (
	"strconv"
	"strings"
	"testing"

	"windlass/api"
)

// fill is nodes that write base, base + 1, .. to the registers.
func fill(base int) string {
	var b strings.Builder
	for i := range 16 {
		b.WriteString("const " + strconv.Itoa(i) + " " + strconv.Itoa(base+i) + "; ")
	}
	return b.String()
}

// tellAll is nodes that tell the registers.
func tellAll() string {
	var b strings.Builder
	for i := range 16 {
		b.WriteString("out " + strconv.Itoa(i) + "; ")
	}
	return b.String()
}

// filled is what tellAll tells behind fill, but for the first registers, which
// are given.
func filled(base int, first ...string) string {
	s := ""
	for i := range 16 {
		v := strconv.Itoa(base + i)
		if i < len(first) {
			v = first[i]
		}
		s += "out=" + v + " "
	}
	return s
}

// kept is what tellAll tells behind a call, with the registers filled before it.
func kept(base int, number string) string {
	s := ""
	for i := range 16 {
		v := poison
		if i == 0 {
			v = number
		}
		if i >= 6 && i <= 11 {
			v = strconv.Itoa(base + i)
		}
		s += "out=" + v + " "
	}
	return s
}

const zeros = "out=0 out=0 out=0 out=0 out=0 out=0 out=0 out=0 out=0 out=0 out=0 out=0 out=0 out=0 out=0 out=0 "

// quietly ends a panic and leaves the registers as they are; in places 16 and 17
// is what recover has found.
const quietly = "recover 16 17; "

// callRegisters: what a call finds in the registers, and what it leaves there.
func callRegisters() []example {
	return []example{
		{graphs: tellAll() + "ret -", want: zeros + "exit=0"},
		{graphs: "call 1 -; ret - | " + tellAll() + "ret -", want: zeros + "exit=0"},
		// All frames have the same ones.
		{graphs: fill(100) + "call 1 -; ret - | " + tellAll() + "ret -", want: filled(100) + "exit=0"},
		{graphs: fill(100) + "call 1 -; ret - | const 9 7; call 2 -; ret - | const 3 8; call 3 -; ret - | out 3; out 9; out 8; ret -", want: "out=8 out=7 out=108 exit=0"},
		{graphs: fill(100) + "call 1 - 0 1 2 3; ret - | graph params=0,1,2,3; " + tellAll() + "ret -", want: filled(100) + "exit=0"},
		{graphs: fill(100) + "call 1 - 0 1; ret - | graph params=0,1 init=1,0; " + tellAll() + "get 16 0; out 16; get 16 1; out 16; ret -", want: filled(100) + "out=101 out=100 exit=0"},
		// Without a result, and with one, that is taken or not.
		{graphs: fill(100) + "call 1 -; " + tellAll() + "ret - | " + fill(200) + "ret -", want: kept(100, poison) + "exit=0"},
		{graphs: fill(100) + "call 1 -; " + tellAll() + "ret - | ret -", want: kept(100, poison) + "exit=0"},
		{graphs: "call 1 -; " + tellAll() + "ret - | " + fill(200) + "ret -", want: strings.Repeat("out="+poison+" ", 6) + strings.Repeat("out=0 ", 6) + strings.Repeat("out="+poison+" ", 4) + "exit=0"},
		{graphs: fill(100) + "call 1 0; " + tellAll() + "ret - | graph result; " + fill(200) + "ret 9", want: kept(100, "209") + "exit=0"},
		{graphs: fill(100) + "call 1 -; " + tellAll() + "ret - | graph result; " + fill(200) + "ret 9", want: kept(100, "209") + "exit=0"},
		{graphs: fill(100) + "call 1 0; " + tellAll() + "ret - | graph result; " + fill(200) + "ret 0", want: kept(100, "200") + "exit=0"},
		{graphs: fill(100) + "call 1 0; " + tellAll() + "ret - | graph result; " + fill(200) + "ret 23", want: kept(100, "0") + "exit=0"},
		{graphs: fill(100) + "call 1 0 0 1 2 3; " + tellAll() + "ret - | graph params=0,1,2,3 result; " + fill(200) + "const 18 77; ret 18", want: kept(100, "77") + "exit=0"},
		{graphs: fill(100) + "call 1 - 0 1 2 3; " + tellAll() + "ret - | graph params=0,1,2,3; ret -", want: kept(100, poison) + "exit=0"},
		// They are as at the call, not as when the frame began, or at an earlier call.
		{graphs: "call 1 -; ret - | " + fill(100) + "const 7 5; call 2 -; out 7; const 7 6; const 10 9; call 2 -; out 7; out 10; out 8; ret - | " + fill(200) + "ret -", want: "out=5 out=6 out=9 out=108 exit=0"},
		{graphs: fill(100) + "call 1 -; " + tellAll() + "ret - | " + fill(200) + "call 2 -; " + tellAll() + "ret - | " + fill(300) + "call 3 -; " + tellAll() + "ret - | " + fill(400) + "ret -", want: kept(300, poison) + kept(200, poison) + kept(100, poison) + "exit=0"},
		{graphs: fill(100) + "call 1 0; " + tellAll() + "ret - | graph result; " + fill(200) + "call 2 0; " + tellAll() + "ret 8 | graph result; " + fill(300) + "ret 5", want: kept(200, "305") + kept(100, "208") + "exit=0"},
		// A graph that calls itself.
		{graphs: "const 0 3; call 1 0 0; out 0; ret - | graph params=0 result; branch 0 end; move 8 0; const 1 1; sub 0 0 1; call 1 0 0; add 0 0 8; ret 0; end: const 0 100; ret 0", want: "out=106 exit=0"},
		// Own places are 0 at first, and are kept; a frame does not see another's.
		{graphs: "const 16 5; const 23 6; call 1 -; out 16; out 23; out 17; ret - | out 16; out 23; const 16 7; const 17 8; const 23 9; ret -", want: "out=0 out=0 out=5 out=6 out=0 exit=0"},
		{graphs: "const 16 5; call 1 -; out 16; const 16 6; call 1 -; out 16; ret - | out 16; const 16 7; call 2 -; out 16; ret - | out 16; const 16 8; ret -", want: "out=0 out=0 out=7 out=5 out=0 out=0 out=7 out=6 exit=0"},
		{graphs: "const 16 5; call 1 -; out 16; out 17; ret - | const 16 6; defer 2; fail 3 | const 17 7; const 16 8; recover 18 19; ret -", want: "out=5 out=0 exit=0"},
		{graphs: "graph places=1024; const 1023 5; const 16 6; call 1 -; out 1023; out 16; out 500; ret - | graph places=1024; out 1023; const 1023 7; const 500 8; ret -", want: "out=0 out=5 out=6 out=0 exit=0"},
		// Cells are kept like them.
		{graphs: "const 1 5; set 2 1; call 1 -; get 1 2; out 1; ret - | const 1 6; set 2 1; ret -", want: "out=5 exit=0"},
	}
}

func TestP8_1CallRegisters(t *testing.T) {
	checkBound(t, callRegisters())
}

func checkBound(t *testing.T, list []example) {
	t.Helper()
	for _, x := range list {
		x.in = bound
		check(t, x)
	}
}

// deferredRegisters: what a deferred call finds in the registers.
func deferredRegisters() []example {
	return []example{
		// At a frame's end: what the frame has left, and its arguments.
		{graphs: "defer 1; " + fill(100) + "ret - | " + tellAll() + "ret -", want: filled(100) + "exit=0"},
		{graphs: fill(100) + "defer 1; " + fill(200) + "ret - | " + tellAll() + "ret -", want: filled(200) + "exit=0"},
		{graphs: fill(100) + "defer 1 0; " + fill(200) + "ret - | graph params=0; " + tellAll() + "ret -", want: filled(200, "100") + "exit=0"},
		{graphs: fill(100) + "defer 1 0 1; " + fill(200) + "ret - | graph params=0,1; " + tellAll() + "ret -", want: filled(200, "100", "101") + "exit=0"},
		{graphs: fill(100) + "defer 1 0 1 2 3; " + fill(200) + "ret - | graph params=0,1,2,3; " + tellAll() + "ret -", want: filled(200, "100", "101", "102", "103") + "exit=0"},
		{graphs: fill(100) + "defer 1 0 1; " + fill(200) + "ret - | graph params=0,1 init=3,2; " + tellAll() + "get 16 2; get 17 3; out 16; out 17; ret -", want: filled(200, "100", "101") + "out=101 out=100 exit=0"},
		// A NDefer writes no register.
		{graphs: fill(100) + "defer 1 0 1; " + tellAll() + "ret - | graph params=0,1; ret -", want: filled(100) + "exit=0"},
		// What the deferred call before it has left.
		{graphs: "defer 1; defer 2; " + fill(100) + "ret - | " + tellAll() + "ret - | " + fill(300) + "ret -", want: filled(300) + "exit=0"},
		{graphs: "const 0 7; const 1 8; defer 1 0; defer 2 0 1; " + fill(100) + "ret - | graph params=0; " + tellAll() + "ret - | graph params=0,1; const 9 55; ret -", want: strings.Replace(filled(100, "7", "8"), "out=109", "out=55", 1) + "exit=0"},
		{graphs: "defer 1; defer 2; " + fill(100) + "ret - | " + tellAll() + "ret - | graph result; " + fill(300) + "ret 5", want: filled(300) + "exit=0"},
		{graphs: "defer 1; defer 2; " + fill(100) + "ret - | " + tellAll() + "ret - | " + fill(300) + "call 3 -; const 3 9; ret - | " + fill(400) + "ret -", want: strings.Repeat("out="+poison+" ", 3) + "out=9 " + kept(300, poison)[4*len("out="+poison+" "):] + "exit=0"},
		// Its own arguments it may change; the next one finds its own.
		{graphs: "const 0 7; defer 1 0; const 0 8; defer 1 0; const 0 9; ret - | graph params=0; out 0; out 1; const 0 50; const 1 51; ret -", want: "out=8 out=0 out=7 out=51 exit=0"},
		// In a frame that was called: the frame below has what it had.
		{graphs: fill(100) + "call 1 -; " + tellAll() + "ret - | defer 2; " + fill(200) + "ret - | " + tellAll() + fill(300) + "ret -", want: filled(200) + kept(100, poison) + "exit=0"},
		{graphs: fill(100) + "call 1 0; " + tellAll() + "ret - | graph result; defer 2; " + fill(200) + "ret 9 | graph result; " + tellAll() + fill(300) + "ret 4", want: filled(200) + kept(100, "209") + "exit=0"},
		// A number that is returned is not in a register any more.
		{graphs: "call 1 0; out 0; ret - | graph result; defer 2; const 5 7; ret 5 | const 5 8; const 0 9; ret -", want: "out=7 exit=0"},
		{graphs: "call 1 0; out 0; ret - | graph result; const 0 4; defer 2 0; const 0 7; ret 0 | graph params=0; out 0; ret -", want: "out=4 out=7 exit=0"},
		// In a panic: what there is where it begins.
		{graphs: "defer 1; " + fill(100) + "panic 3 | " + tellAll() + "ret -", want: filled(100) + "panic=103"},
		{graphs: fill(100) + "defer 1 0 1 2 3; " + fill(200) + "panic 3 | graph params=0,1,2,3; " + tellAll() + "ret -", want: filled(200, "100", "101", "102", "103") + "panic=203"},
		{graphs: "defer 2; " + fill(100) + "call 1 -; ret - | " + fill(200) + "panic 3 | " + tellAll() + "ret -", want: filled(200) + "panic=203"},
		{graphs: fill(50) + "defer 3 0; " + fill(100) + "call 1 -; ret - | " + fill(200) + "call 2 -; ret - | " + fill(300) + "panic 3 | graph params=0; " + tellAll() + "ret -", want: filled(300, "50") + "panic=303"},
		{graphs: "defer 1; " + fill(100) + "const 0 0; div 1 1 0; ret - | " + tellAll() + "ret -", want: filled(100, "0") + byZero},
		{graphs: "defer 1; " + fill(100) + "load 1 2; ret - | " + tellAll() + "ret -", want: filled(100) + byNull},
		{graphs: "defer 2; call 1 -; ret - | defer 3; " + fill(200) + "panic 3 | " + tellAll() + "ret - | " + fill(300) + "ret -", want: filled(300) + "panic=203"},
		{graphs: "defer 2; defer 1; " + fill(100) + "panic 3 | " + fill(200) + "panic 4 | " + tellAll() + "ret -", want: filled(200) + "panic=204"},
		// Behind a recover, in the calls that follow it.
		{graphs: "defer 1; defer 2; " + fill(100) + "panic 3 | " + tellAll() + "ret - | " + quietly + fill(300) + "ret -", want: filled(300) + "exit=0"},
	}
}

func TestP8_1DeferredRegisters(t *testing.T) {
	checkBound(t, deferredRegisters())
}

// recoveredRegisters: what the frame below finds when a frame was recovered.
func recoveredRegisters() []example {
	return []example{
		{graphs: fill(100) + "call 1 -; " + tellAll() + "ret - | defer 2; " + fill(200) + "panic 3 | " + quietly + fill(300) + "ret -", want: kept(100, poison) + "exit=0"},
		{graphs: fill(100) + "call 1 0; " + tellAll() + "ret - | graph result; defer 2; " + fill(200) + "panic 3 | " + quietly + fill(300) + "ret -", want: kept(100, "0") + "exit=0"},
		{graphs: fill(100) + "call 1 -; " + tellAll() + "ret - | graph result keep=2; defer 2; " + fill(200) + "set 2 4; panic 3 | " + quietly + fill(300) + "ret -", want: kept(100, "204") + "exit=0"},
		{graphs: fill(100) + "call 1 -; " + tellAll() + "ret - | graph keep=2; defer 2; " + fill(200) + "set 2 4; panic 3 | " + quietly + fill(300) + "ret -", want: kept(100, poison) + "exit=0"},
		// Past frames that are not recovered.
		{graphs: fill(100) + "call 1 -; " + tellAll() + "ret - | defer 3; " + fill(200) + "call 2 -; " + tellAll() + "ret - | " + fill(250) + "panic 3 | " + quietly + fill(300) + "ret -", want: kept(100, poison) + "exit=0"},
		{graphs: fill(100) + "call 1 0; " + tellAll() + "ret - | graph result keep=0; const 1 6; set 0 1; defer 3; " + fill(200) + "call 2 0; " + tellAll() + "ret 0 | graph result; " + fill(250) + "panic 3 | " + quietly + "call 4 -; ret - | " + fill(400) + "ret -", want: kept(100, "6") + "exit=0"},
		// A frame further up ends, and the one that goes on is the one that called it.
		{graphs: fill(100) + "call 1 -; " + tellAll() + "ret - | " + fill(200) + "call 2 -; " + tellAll() + "ret - | defer 3; " + fill(300) + "panic 3 | " + quietly + fill(400) + "ret -", want: kept(200, poison) + kept(100, poison) + "exit=0"},
		// With deferred calls behind the one that recovers.
		{graphs: fill(100) + "call 1 0; " + tellAll() + "ret - | graph result keep=1; const 1 9; set 1 1; defer 3; defer 2; " + fill(200) + "panic 3 | " + quietly + fill(300) + "ret - | " + tellAll() + fill(400) + "ret -", want: filled(300) + kept(100, "9") + "exit=0"},
		// In a deferred function: the frame below it goes on ending.
		{graphs: "defer 1; defer 2; " + fill(100) + "ret - | " + tellAll() + "ret - | defer 3; " + fill(200) + "panic 3 | " + quietly + "const 9 77; ret -", want: strings.Replace(filled(200), "out=209", "out=77", 1) + "exit=0"},
		// A call in the frame that recovers.
		{graphs: fill(100) + "call 1 -; " + tellAll() + "ret - | defer 2; fail 3 | " + quietly + fill(300) + "call 3 0; " + tellAll() + "ret - | graph result; " + fill(400) + "ret 7", want: kept(300, "407") + kept(100, poison) + "exit=0"},
		// What recover finds may be laid in any register.
		{graphs: "defer 1; fail 8 | recover 0 11; out 0; out 11; ret -", want: "out=8 out=1 exit=0"},
		{graphs: "defer 1; fail 8 | recover 11 0; out 0; out 11; ret -", want: "out=1 out=8 exit=0"},
		{graphs: "defer 1; fail 8 | recover 16 9; out 16; out 9; ret -", want: "out=8 out=1 exit=0"},
	}
}

func TestP8_1RecoveredRegisters(t *testing.T) {
	checkBound(t, recoveredRegisters())
}

// TestP8_1Registers: which places are registers, one by one.
func TestP8_1Registers(t *testing.T) {
	for place := range 24 {
		p := strconv.Itoa(place)
		shared := place < 16
		behind := "5"
		if shared && (place < 6 || place > 11) {
			behind = poison
		}
		seen := "0"
		if shared {
			seen = "5"
		}
		checkBound(t, []example{
			{graphs: "const " + p + " 5; call 1 -; out " + p + "; ret - | out " + p + "; const " + p + " 6; ret -", want: "out=" + seen + " out=" + behind + " exit=0"},
			{graphs: "const " + p + " 5; defer 1; ret - | out " + p + "; ret -", want: "out=" + seen + " exit=0"},
			{graphs: "defer 1; const " + p + " 5; panic " + p + " | out " + p + "; ret -", want: "out=" + seen + " panic=5"},
		})
	}
	if api.Saved != 6 || api.Scratch != 12 || api.Registers != 16 || strconv.FormatUint(api.Poison, 10) != poison {
		t.Errorf("the numbers of package api are others")
	}
}

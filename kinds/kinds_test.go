package kinds_test

import (
	"math/rand"
	"slices"
	"strconv"
	"strings"
	"testing"

	"windlass/api"
	"windlass/code"
	"windlass/kinds"
	"windlass/text"
)

// head begins a function that has nothing but instructions.
const head = "func 0 - 0 -; "

// parse a text of layer 4 whose lines are separated by semicolons.
func parse(t *testing.T, s string) api.Program {
	t.Helper()
	p, n, e := text.Parse(strings.ReplaceAll(s, ";", "\n"))
	if e != api.OK {
		t.Fatalf("%q: line %d is none", s, n)
	}
	return p
}

// marked is a text whose instructions have their marks ahead of them.
func marked(t *testing.T, s string) (api.Program, [][]string) {
	t.Helper()
	var lines []string
	var marks [][]string
	for line := range strings.SplitSeq(s, ";") {
		line = strings.TrimSpace(line)
		if strings.HasPrefix(line, "func") {
			lines = append(lines, line)
			marks = append(marks, nil)
			continue
		}
		mark, instr, _ := strings.Cut(line, " ")
		lines = append(lines, instr)
		last := len(marks) - 1
		marks[last] = append(marks[last], mark)
	}
	return parse(t, strings.Join(lines, ";")), marks
}

// marksIn are the marks of what Check returned; an instruction that is not
// reachable, but has a stack, has no good mark.
func marksIn(t *testing.T, types *api.Types) [][]string {
	t.Helper()
	if len(types.Reached) != len(types.Stacks) {
		t.Errorf("%d functions are in Reached, %d in Stacks", len(types.Reached), len(types.Stacks))
		return nil
	}
	var marks [][]string
	for n, reached := range types.Reached {
		stacks := types.Stacks[n]
		if len(reached) != len(stacks) {
			t.Errorf("function %d: %d instructions are in Reached, %d in Stacks", n, len(reached), len(stacks))
			return nil
		}
		list := make([]string, len(stacks))
		for at, stack := range stacks {
			list[at] = markOf(lettersOf(stack))
			if !reached[at] {
				list[at] = strings.Replace(unreached+list[at], unreached+bare, unreached, 1)
			}
		}
		marks = append(marks, list)
	}
	return marks
}

func sameMarks(a, b [][]string) bool {
	return slices.EqualFunc(a, b, slices.Equal[[]string])
}

// check holds Check against the marks, and the second reading against them.
func check(t *testing.T, name string, p api.Program, want [][]string) {
	t.Helper()
	types, e := kinds.Check(p)
	if e != api.OK || types == nil {
		t.Errorf("%s: Check returns %v, %d; want OK; %v", name, types, int(e), p)
		return
	}
	if got := marksIn(t, types); !sameMarks(got, want) {
		t.Errorf("%s: Check returns %v; want %v; %v", name, got, want, p)
	}
	if read, e := verdict(p); e != api.OK || !sameMarks(read, want) {
		t.Errorf("%s: the second reading says %v, %d; want %v, OK; %v", name, read, int(e), want, p)
	}
}

func checkMarked(t *testing.T, list ...string) {
	t.Helper()
	for _, s := range list {
		p, want := marked(t, s)
		check(t, s, p, want)
	}
}

func checkNo(t *testing.T, name string, p api.Program, want api.Errno) {
	t.Helper()
	if types, e := kinds.Check(p); types != nil || e != want {
		t.Errorf("%s: Check returns %v, %d; want nil, %d; %v", name, types, int(e), int(want), p)
	}
	if _, e := verdict(p); e != want {
		t.Errorf("%s: the second reading says %d; want %d; %v", name, int(e), int(want), p)
	}
}

func checkNoText(t *testing.T, want api.Errno, list ...string) {
	t.Helper()
	for _, s := range list {
		checkNo(t, s, parse(t, s), want)
	}
}

// checkIf holds whether Check returns OK, or else ErrKind.
func checkIf(t *testing.T, valid bool, list ...string) {
	t.Helper()
	for _, s := range list {
		p := parse(t, s)
		want, _ := verdict(p)
		if valid {
			check(t, s, p, want)
			continue
		}
		checkNo(t, s, p, api.ErrKind)
	}
}

func repeat(line string, n int) string { return strings.Repeat(line+"; ", n) }

func number(n int) string { return strconv.Itoa(n) }

func TestP5_1Examples(t *testing.T) {
	checkMarked(t,
		"func 0 - 0 -; . const 1; N out; . ret",
		"func 0 - 0 -; . const 1; N zero 0; . ret",
		"func 0 - 0 -; . jump 0",
	)
	checkNoText(t, api.ErrKind,
		"func 0 - 0 -; out; ret",
		"func 0 - 0 -; const 1; const 1; zero 0; ret",
		"func 0 - 0 -; const 1",
	)
}

// operation is an instruction with what it takes and leaves, in a function with
// the locals of surroundings.
type operation struct{ line, takes, leaves string }

// operations are those whose only successor is the next instruction.
func operations() []operation {
	list := []operation{
		{"const 5", "", "N"}, {"in", "", "N"},
		{"get 0", "", "N"}, {"get 1", "", "P"}, {"get 2", "", "N"}, {"get 3", "", "P"},
		{"set 0", "N", ""}, {"set 1", "P", ""}, {"set 2", "N", ""}, {"set 3", "P", ""},
		{"addr 0", "", "P"}, {"addr 2", "", "P"},
		{"load", "P", "N"}, {"store", "PN", ""},
		{"out", "N", ""}, {"recover", "", "NN"},
		{"drop", "N", ""}, {"drop", "P", ""}, {"dup", "N", "NN"}, {"dup", "P", "PP"},
	}
	for line := range strings.FieldsSeq("add sub mul div rem and or xor shl shr sar eq lt below") {
		list = append(list, operation{line, "NN", "N"})
	}
	for n, f := range called() {
		arg := number(n + 2)
		list = append(list, operation{"call " + arg, f.params, f.result}, operation{"defer " + arg, f.params, ""})
	}
	return list
}

// called are functions that are called: what they take, and their result.
func called() []struct{ params, result string } {
	return []struct{ params, result string }{
		{"", ""}, {"", "N"}, {"N", ""}, {"N", "N"}, {"P", ""}, {"P", "N"},
		{"NP", ""}, {"PN", "N"}, {"NPP", "N"}, {"PNNP", ""}, {"NNPN", "N"},
	}
}

// surroundings are a program whose function 1 has the code, and two parameters
// and two locals more, of both kinds; the functions from 2 on are those called.
func surroundings(result, code string) string {
	s := head + "ret; func 2 npnp " + result + " 0; " + code
	for _, f := range called() {
		locals := strings.ToLower(f.params) + "pn"
		flag := number(len(f.result))
		s += "; func " + number(len(f.params)) + " " + locals + " " + flag + " -; const 0; exit"
	}
	return s
}

// markedSurroundings have the stacks of the code of function 1.
func markedSurroundings(t *testing.T, code string, marks ...string) (api.Program, [][]string) {
	t.Helper()
	want := [][]string{{bare}, marks}
	for range called() {
		want = append(want, []string{bare, "N"})
	}
	return parse(t, surroundings("0", code)), want
}

// pushes are the instructions that lay a stack, each of them ended, and the
// stacks before them.
func pushes(stack string) (string, []string) {
	var s string
	var marks []string
	for n, letter := range stack {
		s += map[rune]string{'N': "const 7; ", 'P': "addr 0; "}[letter]
		marks = append(marks, markOf(stack[:n]))
	}
	return s, marks
}

// stacksUpTo a length, from the empty one on.
func stacksUpTo(length int) []string {
	list := []string{""}
	for n := 0; len(list[n]) < length; n++ {
		list = append(list, list[n]+"N", list[n]+"P")
	}
	return list
}

// itself is a jump to itself: it ends what has any stack.
func itself(at int) string { return "jump " + number(at) }

func TestP5_1EachOperation(t *testing.T) {
	for _, o := range operations() {
		for _, below := range stacksUpTo(3) {
			s, marks := pushes(below + o.takes)
			marks = append(marks, markOf(below+o.takes), markOf(below+o.leaves))
			p, want := markedSurroundings(t, s+o.line+"; "+itself(len(marks)-1), marks...)
			check(t, o.line, p, want)
		}
	}
}

func TestP5_1EachOperationThatDoesNotGoOn(t *testing.T) {
	for _, below := range stacksUpTo(3) {
		s, marks := pushes(below)
		n := len(marks)
		mark := markOf(below)
		for _, o := range []struct {
			s     string
			marks []string
		}{
			{itself(n+2) + "; add; " + itself(n+2), []string{mark, unreached, mark}},
			{itself(n+2) + "; ret; " + itself(n), []string{mark, unreached, mark}},
			{"const 0; panic; load; ret", []string{mark, below + "N", unreached, unreached}},
			{"const 0; exit; store; ret", []string{mark, below + "N", unreached, unreached}},
			{"in; zero " + number(n+3) + "; " + itself(n+2) + "; " + itself(n+3), []string{mark, below + "N", mark, mark}},
			{"in; zero " + number(n+2) + "; " + itself(n+2), []string{mark, below + "N", mark}},
			{"in; zero " + number(n) + "; " + itself(n), []string{mark, below + "N", mark}},
		} {
			p, want := markedSurroundings(t, s+o.s, append(slices.Clone(marks), o.marks...)...)
			check(t, o.s, p, want)
		}
	}
}

func TestP5_1Ret(t *testing.T) {
	for _, stack := range stacksUpTo(4) {
		s, _ := pushes(stack)
		checkIf(t, stack == "", surroundings("0", s+"ret"))
		checkIf(t, stack == "N", surroundings("1", s+"ret"))
	}
	checkMarked(t,
		"func 0 - 0 -; . call 1; N out; . ret; func 0 - 1 -; . const 1; N ret; x ret",
		"func 0 - 0 -; . call 1; . ret; func 0 - 0 -; . const 1; N drop; . ret; x add",
	)
}

// operands are what the operations that may have a successor, panic and exit
// take, by their lines; those of jump and zero have no target yet.
func operands() map[string][]string {
	all := map[string][]string{
		"const 1": {""}, "get 1": {""}, "addr 0": {""}, "jump": {""}, "in": {""}, "recover": {""},
		"set 0": {"N"}, "set 1": {"P"}, "load": {"P"}, "store": {"PN"},
		"zero": {"N"}, "panic": {"N"}, "out": {"N"}, "exit": {"N"},
		"drop": {"N", "P"}, "dup": {"N", "P"},
	}
	for line := range strings.FieldsSeq("add sub mul div rem and or xor shl shr sar eq lt below") {
		all[line] = []string{"NN"}
	}
	for n, f := range called() {
		all["call "+number(n+2)] = []string{f.params}
		all["defer "+number(n+2)] = []string{f.params}
	}
	return all
}

func TestP5_1TooLittleOrOther(t *testing.T) {
	for line, takes := range operands() {
		for _, stack := range stacksUpTo(5) {
			s, marks := pushes(stack)
			next := len(marks) + 1
			line := line
			if line == "jump" || line == "zero" {
				line += " " + number(next) // no path meets another stack there
			}
			valid := slices.ContainsFunc(takes, func(end string) bool { return strings.HasSuffix(stack, end) })
			checkIf(t, valid, surroundings("0", s+line+"; "+itself(next)))
			checkIf(t, true, surroundings("0", itself(0)+"; "+s+line))
		}
	}
}

func TestP5_1PathsThatMeet(t *testing.T) {
	checkMarked(t,
		"func 0 - 0 -; . in; N zero 4; . const 1; N jump 5; . const 2; N out; . ret",
		"func 0 np 0 -; . in; N zero 4; . get 1; P jump 5; . addr 0; P load; N out; . ret",
		"func 0 n 0 -; . const 1; N addr 0; NP in; NPN zero 5; NP jump 5; NP load; NN add; N out; . ret",
		"func 0 - 0 -; . in; N zero 2; . ret",
		"func 0 - 0 -; . in; N zero 4; . in; N zero 4; . ret",
		"func 0 - 0 -; . jump 3; . const 1; N exit; . jump 1",
	)
	checkNoText(t, api.ErrKind,
		head+"in; zero 3; const 1; jump 3",
		head+"in; zero 4; in; jump 4; jump 4",
		head+"in; zero 4; in; jump 5; jump 5; jump 5",
		"func 0 n 0 -; in; zero 4; const 1; jump 5; addr 0; jump 5",
		"func 0 n 0 -; in; zero 5; const 1; addr 0; jump 7; addr 0; const 1; jump 7",
		"func 0 n 0 -; in; zero 6; const 1; const 1; addr 0; jump 9; const 1; addr 0; addr 0; jump 9",
		"func 0 p 0 -; in; in; zero 5; drop; get 0; jump 5",
	)
}

func TestP5_1Loops(t *testing.T) {
	checkMarked(t,
		"func 0 n 0 -; . in; N set 0; . get 0; N zero 9; . get 0; N const 1; NN sub; N set 0; . jump 2; . ret",
		"func 0 - 0 -; . const 0; N const 3; NN add; N dup; NN zero 1; N out; . ret",
		"func 0 p 0 -; . get 0; P in; PN drop; P jump 1",
		"func 0 - 0 -; . jump 1; . jump 1",
		"func 0 - 0 -; . in; N in; NN zero 1; N out; . ret",
		"func 0 - 0 -; . in; N zero 0; . in; N zero 2; . jump 0",
	)
	checkNoText(t, api.ErrKind,
		head+"const 1; jump 0",
		head+"in; in; jump 1",
		head+"recover; jump 0",
		head+"in; in; in; drop; drop; jump 2",
		head+"in; in; zero 0; exit",
		"func 0 p 0 -; get 0; drop; in; drop; get 0; jump 3",
		"func 0 p 0 -; get 0; dup; drop; drop; in; jump 1",
	)
}

func TestP5_1UnreachableCode(t *testing.T) {
	checkMarked(t,
		"func 0 - 0 -; . ret; x const 1",
		"func 0 - 0 -; . ret; x const 1; x ret",
		"func 0 - 0 -; . ret; x out; x ret",
		"func 0 - 0 -; . ret; x const 1; x jump 1",
		"func 0 - 0 -; . ret; x zero 0",
		"func 0 - 0 -; . ret; x in; x zero 1; x load",
		"func 0 - 0 -; . jump 3; x const 1; x const 2; . ret",
		"func 0 n 0 -; . jump 4; x const 1; x addr 0; x zero 4; . ret",
		"func 0 - 0 -; . jump 2; x jump 4; . const 1; N exit; x add; x const 2",
		"func 0 - 0 -; . const 1; N panic; x jump 0; x panic",
		"func 0 - 0 -; . const 1; N exit; x jump 1; x drop",
		"func 0 p 0 -; . ret; x set 0; x store; x dup; x recover; x call 0; x defer 0",
		"func 0 - 0 -; . in; N zero 5; . const 1; N exit; x store; . const 2; N panic; x sub",
		"func 0 - 0 -; . ret; "+strings.TrimSuffix(strings.Repeat("x const 1; ", 40), "; "),
		"func 0 - 0 -; . ret; func 0 - 1 -; . const 1; N ret; x ret; x const 1; x const 1; x ret",
	)
}

func TestP5_1SeveralFunctions(t *testing.T) {
	checkMarked(t,
		"func 0 - 0 -; . ret; func 0 - 0 -; . const 1; N out; . ret; func 0 - 0 -; . jump 2; x ret; . ret",
		"func 0 n 0 -; . addr 0; P in; PN call 1; N drop; . ret; func 2 pn 1 -; . get 0; P load; N ret",
		"func 0 - 0 -; . call 0; . defer 0; . ret",
		"func 0 - 0 -; . in; N call 1; N exit; func 1 np 1 -; . get 0; N call 1; N ret; x get 1",
		"func 0 - 0 -; . in; N defer 2; . ret; func 4 pnnp 0 -; . ret; func 1 n 1 0; . get 0; N get 0; NN get 0; NNN get 0; NNNN defer 2; NNN drop; NN drop; N ret",
	)
	checkNoText(t, api.ErrKind,
		head+"ret; "+head+"out; ret",
		head+"out; ret; "+head+"ret",
		head+"ret; "+head+"out; ret; "+head+"ret",
		head+"call 1; out; ret; "+head+"ret",
		head+"call 1; ret; func 0 - 1 -; in; ret",
		"func 0 n 0 -; in; addr 0; call 1; ret; func 2 pn 0 -; ret",
	)
}

func TestP5_1FirstFunction(t *testing.T) {
	for n := range 5 {
		f := "func " + number(n) + " " + strings.Repeat("n", n) + "p 0 -; ret"
		checkIf(t, n == 0, f, f+"; "+head+"ret")
		checkIf(t, true, head+"ret; "+f)
	}
	withResult := "func 0 n 1 0; get 0; ret"
	checkIf(t, false, withResult, withResult+"; "+head+"ret", "func 0 - 1 -; jump 0", "func 1 p 1 -; in; exit")
	checkIf(t, true, head+"ret; "+withResult, head+"ret; "+head+"ret; "+withResult)
}

func TestP5_1NoInstruction(t *testing.T) {
	f, ret := strings.TrimSuffix(head, "; "), head+"ret"
	checkIf(t, false, f, ret+"; "+f, f+"; "+ret, ret+"; "+f+"; "+ret, ret+"; func 1 n 1 0")
	checkIf(t, true, ret, ret+"; "+ret, ret+"; "+ret+"; "+ret)
}

// numbersAround has 0, what lies around n, and what is far from it.
func numbersAround(n, greatest int) []int {
	list := []int{0, 1, n - 1, n, n + 1, 16, 17, 127, 128, 254, 255, 256, 65535}
	return slices.DeleteFunc(list, func(v int) bool { return v < 0 || v > greatest })
}

// orNone is the word of a function's locals.
func orNone(letters string) string {
	if letters == "" {
		return "-"
	}
	return letters
}

func TestP5_1LocalsExist(t *testing.T) {
	for n := range 17 {
		for _, arg := range numbersAround(n, 255) {
			a := number(arg)
			for _, letter := range []string{"n", "p"} {
				f := "func 0 " + orNone(strings.Repeat(letter, n)) + " 0 -; "
				in := map[string]string{"n": "in; ", "p": "jump 0; "}[letter]
				checkIf(t, arg < n, f+"get "+a+"; drop; ret", f+"ret; get "+a, f+in+"set "+a+"; ret", f+"ret; set "+a, head+"ret; "+f+"ret; get "+a)
				checkIf(t, arg < n && letter == "n", f+"addr "+a+"; drop; ret", f+"ret; addr "+a, head+"ret; "+f+"ret; addr "+a)
			}
		}
	}
}

func TestP5_1KindsOfLocals(t *testing.T) {
	const letters = "npnnpppnpnpnnppn"
	for n, letter := range letters {
		a := number(n)
		isNumber := letter == 'n'
		for params := range 5 {
			f := head + "ret; func " + number(params) + " " + letters + " 0 -; "
			checkIf(t, isNumber, f+"in; set "+a+"; ret", f+"get "+a+"; exit", f+"ret; addr "+a, f+"addr "+a+"; jump 1", f+"ret; ret; ret; addr "+a+"; ret")
			checkIf(t, !isNumber, f+"get 1; set "+a+"; ret", f+"get "+a+"; load; exit")
		}
	}
}

func TestP5_1FunctionsExist(t *testing.T) {
	for n := 1; n <= 16; n++ {
		behind, ahead := strings.Repeat("; "+head+"ret", n-1), strings.Repeat(head+"ret; ", n-1)
		for _, arg := range numbersAround(n, 255) {
			a := number(arg)
			checkIf(t, arg < n,
				head+"call "+a+"; ret"+behind, head+"defer "+a+"; ret"+behind,
				head+"ret; call "+a+behind, head+"ret; defer "+a+behind,
				ahead+head+"call "+a+"; ret", ahead+head+"ret; defer "+a)
		}
	}
}

func TestP5_1TargetsExist(t *testing.T) {
	for _, n := range []int{2, 3, 4, 17, 255, 256} {
		for _, arg := range numbersAround(n, 65535) {
			a := number(arg)
			rets := strings.Repeat("; ret", n-2)
			checkIf(t, arg < n, head+"jump "+a+"; ret"+rets, head+"ret; jump "+a+rets, head+"ret; zero "+a+rets, head+"ret; "+head+"ret; zero "+a+rets)
			if n > 2 && arg != 1 {
				checkIf(t, arg < n, head+"in; zero "+a+rets)
			}
		}
	}
	checkNoText(t, api.ErrKind, head+"jump 1", head+"jump 2; "+head+"ret; ret; ret")
}

func TestP5_1Keep(t *testing.T) {
	const letters = "npnnpppnpnpnnppn"
	for _, result := range []string{"0", "1"} {
		for _, line := range []string{"", "defer 0; "} {
			for n := range 17 {
				f := head + "ret; func 0 " + orNone(letters[:n]) + " " + result + " "
				for _, keep := range numbersAround(n, 254) {
					checkIf(t, keep < n && letters[keep] == 'n', f+number(keep)+"; "+line+"in; exit")
				}
				checkIf(t, result == "0" || line == "", f+"-; "+line+"in; exit")
			}
		}
	}
	checkIf(t, true, "func 0 n 0 0; ret", "func 0 pn 0 1; ret")
	checkIf(t, false, "func 0 n 0 1; ret", "func 0 pn 0 0; ret", "func 0 - 0 0; ret")
}

func TestP5_1DefersAndKeep(t *testing.T) {
	checkIf(t, false,
		head+"ret; func 0 - 1 -; defer 0; in; ret",
		head+"ret; func 0 n 1 -; in; ret; defer 0",
		head+"ret; func 0 n 1 -; jump 0; jump 3; defer 0; ret",
		head+"ret; "+head+"ret; func 1 n 1 -; get 0; defer 2; in; ret",
	)
	checkIf(t, true,
		head+"ret; func 0 n 1 0; defer 0; in; ret",
		head+"ret; func 0 - 1 -; in; ret",
		head+"ret; func 0 - 1 -; call 0; in; ret",
		head+"ret; func 0 - 0 -; defer 0; ret",
		head+"defer 1; ret; func 0 - 1 -; in; ret; func 0 - 0 -; defer 1; ret",
		"func 0 - 0 -; defer 0; ret",
	)
}

func TestP5_1LastInstruction(t *testing.T) {
	for _, o := range operations() {
		s, _ := pushes(o.takes)
		checkIf(t, false, surroundings("0", s+o.line))
		checkIf(t, true, surroundings("0", "ret; "+s+o.line))
	}
	checkIf(t, false, head+"in; zero 0", head+"ret; "+head+"in; zero 0", head+"const 1; "+head+"ret")
	checkIf(t, true, head+"ret", head+"in; panic", head+"in; exit", head+"jump 0", head+"in; zero 3; ret; jump 0")
}

// fault is a function at fault; some that have no bytes have no text either.
type fault struct {
	name string
	f    api.Func
}

func body(list ...api.Instr) api.Func { return api.Func{Keep: -1, Code: list} }

func formFaults() []fault {
	ret := api.Instr{Op: api.Ret}
	none := make([]api.Kind, 256)
	return []fault{
		{"Params below 0", api.Func{Params: -1, Keep: -1, Code: []api.Instr{ret}}},
		{"more Params than locals", api.Func{Params: 1, Keep: -1, Code: []api.Instr{ret}}},
		{"the most Params", api.Func{Params: 1<<63 - 1, Locals: none[:1], Keep: -1, Code: []api.Instr{ret}}},
		{"256 locals", api.Func{Locals: none, Keep: -1, Code: []api.Instr{ret}}},
		{"another kind", api.Func{Locals: []api.Kind{api.Num, 2}, Keep: -1, Code: []api.Instr{ret}}},
		{"Keep below -1", api.Func{Keep: -2, Code: []api.Instr{ret}}},
		{"the least Keep", api.Func{Keep: -1 << 63, Code: []api.Instr{ret}}},
		{"Keep 255", api.Func{Locals: none[:255], Keep: 255, Code: []api.Instr{ret}}},
		{"the most Keep", api.Func{Keep: 1<<63 - 1, Code: []api.Instr{ret}}},
		{"65536 instructions", body(slices.Repeat([]api.Instr{ret}, 65536)...)},
		{"operation 0", body(ret, api.Instr{})},
		{"operation 33", body(ret, api.Instr{Op: 33})},
		{"operation 255", body(api.Instr{Op: 255})},
		{"an Arg that has no bytes", body(api.Instr{Op: api.Ret, Arg: 1})},
		{"an Arg below 0", body(ret, api.Instr{Op: api.Jump, Arg: -1})},
		{"the least Arg", body(ret, api.Instr{Op: api.Call, Arg: -1 << 63})},
		{"a local beyond a byte", body(ret, api.Instr{Op: api.Get, Arg: 256})},
		{"a target beyond two bytes", body(ret, api.Instr{Op: api.Zero, Arg: 65536})},
		{"the most Arg", body(ret, api.Instr{Op: api.Addr, Arg: 1<<63 - 1})},
		{"an Imm that has no bytes", body(api.Instr{Op: api.Ret, Imm: 1})},
	}
}

func faults(t *testing.T, list ...string) []fault {
	t.Helper()
	var all []fault
	for _, s := range list {
		all = append(all, fault{s, parse(t, s).Funcs[0]})
	}
	return all
}

func boundFaults(t *testing.T) []fault {
	t.Helper()
	return faults(t,
		"func 5 nnnnn 0 -; jump 0",
		"func 255 "+strings.Repeat("p", 255)+" 0 -; jump 0",
		"func 0 nnnnnnnnnnnnnnnnn 0 -; ret",
		head+repeat("ret", 256)+"ret",
		head+repeat("ret", 65534)+"ret",
	)
}

func kindFaults(t *testing.T) []fault {
	t.Helper()
	return faults(t,
		strings.TrimSuffix(head, "; "),
		"func 0 - 0 0; ret",
		"func 0 p 0 0; ret",
		head+"ret; get 0",
		"func 0 p 0 -; ret; addr 0",
		head+"ret; call 16",
		head+"jump 1",
		head+"out; ret",
		"func 0 p 0 -; get 0; out; ret",
		head+"in; ret",
		head+"in; zero 3; in; jump 3",
		head+"in",
		"func 0 - 1 -; defer 0; jump 1",
	)
}

func depthFaults(t *testing.T) []fault {
	t.Helper()
	return faults(t,
		head+repeat("const 1", 17)+"exit",
		head+repeat("recover", 9)+"panic",
		"func 0 p 0 -; "+repeat("get 0", 17)+"jump 17",
		head+repeat("in", 255)+"exit",
	)
}

// checkPlaced has functions at fault alone, and among functions without a fault.
func checkPlaced(t *testing.T, name string, want api.Errno, list ...api.Func) {
	t.Helper()
	ret := []api.Func{body(api.Instr{Op: api.Ret})}
	for _, funcs := range [][]api.Func{list, slices.Concat(ret, list), slices.Concat(list, ret), slices.Concat(ret, list, ret)} {
		checkNo(t, name, api.Program{Funcs: funcs}, want)
	}
}

func TestP5_1EachError(t *testing.T) {
	for want, list := range map[api.Errno][]fault{
		api.ErrForm: formFaults(),
		api.ErrKind: kindFaults(t),
		api.ErrBig:  slices.Concat(boundFaults(t), depthFaults(t)),
	} {
		for _, x := range list {
			checkPlaced(t, x.name, want, x.f)
		}
	}
}

// TestP5_1FirstOfTwoErrors has two functions with faults of two classes, in both
// orders.
func TestP5_1FirstOfTwoErrors(t *testing.T) {
	classes := [][]fault{formFaults(), boundFaults(t), kindFaults(t), depthFaults(t)}
	errors := []api.Errno{api.ErrForm, api.ErrBig, api.ErrKind, api.ErrBig}
	for n, class := range classes {
		for _, x := range class {
			for _, y := range slices.Concat(classes[n:]...) {
				checkPlaced(t, x.name+" ahead of "+y.name, errors[n], x.f, y.f)
				checkPlaced(t, y.name+" behind "+x.name, errors[n], y.f, x.f)
			}
		}
	}
}

// TestP5_1FirstErrorInOneFunction has faults of several classes in one function.
func TestP5_1FirstErrorInOneFunction(t *testing.T) {
	deep := repeat("in", 17)
	checkNoText(t, api.ErrBig,
		"func 5 nnnnn 0 -; out",
		"func 0 nnnnnnnnnnnnnnnnn 0 -; "+deep+"load",
		head+repeat("add", 256)+"add",
		head+repeat("in", 257)+"ret",
		"func 5 nnnnn 1 99; get 99",
	)
	checkNoText(t, api.ErrKind,
		head+deep+"load",
		head+deep+"ret",
		head+deep+"add",
		head+deep+"jump 16",
		head+deep+"zero 99; exit",
		head+deep+"exit; call 9",
		"func 0 - 0 0; "+deep+"exit",
		"func 0 - 1 -; "+deep+"exit",
		head+repeat("recover", 255)+"load",
		head+repeat("in", 255)+"in; "+head+"ret",
	)
	p := parse(t, "func 5 nnnnn 0 -; out; ret")
	p.Funcs[0].Code[1].Imm = 1
	checkNo(t, "all but depth", p, api.ErrForm)
	p = parse(t, head+deep+"load; exit")
	p.Funcs[0].Keep = 255
	checkNo(t, "Keep, kinds and depth", p, api.ErrForm)
}

func TestP5_1NumberOfFunctions(t *testing.T) {
	checkNo(t, "no functions", api.Program{}, api.ErrForm)
	checkNo(t, "an empty list of functions", api.Program{Funcs: []api.Func{}}, api.ErrForm)
	good, bad, deep := head+"ret; ", head+"out; ret; ", head+repeat("in", 17)+"exit; "
	for n := 1; n <= 16; n++ {
		p, want := marked(t, strings.TrimSuffix(strings.Repeat("func 0 - 0 -; . ret; ", n), "; "))
		check(t, number(n)+" functions", p, want)
	}
	for _, n := range []int{17, 18, 254, 255} {
		for _, f := range []string{good, bad, deep} {
			checkNoText(t, api.ErrBig, strings.Repeat(f, n))
		}
	}
	for _, n := range []int{256, 257} {
		for _, f := range []string{good, bad, deep} {
			checkNoText(t, api.ErrForm, strings.Repeat(f, n))
		}
	}
	checkNoText(t, api.ErrKind, strings.Repeat(good, 15)+bad, bad+strings.Repeat(good, 15), strings.Repeat(deep, 15)+bad)
	checkNoText(t, api.ErrBig, strings.Repeat(good, 15)+deep, deep+strings.Repeat(good, 15))
}

func TestP5_1EachBound(t *testing.T) {
	for n := range 8 {
		f := head + "ret; func " + number(n) + " " + orNone(strings.Repeat("p", n)) + " 0 -; ret"
		if n > 4 {
			checkNoText(t, api.ErrBig, f)
			continue
		}
		checkIf(t, true, f)
	}
	for _, n := range []int{0, 1, 15, 16, 17, 18, 254, 255} {
		f := "func 0 " + orNone(strings.Repeat("p", n)) + " 0 -; ret"
		if n > 16 {
			checkNoText(t, api.ErrBig, f, head+"ret; "+f)
			continue
		}
		checkIf(t, true, f, head+"ret; "+f)
	}
	for _, n := range []int{1, 2, 254, 255, 256, 257, 258, 512, 65535} {
		f := head + repeat("ret", n-1) + "ret"
		if n > 256 {
			checkNoText(t, api.ErrBig, f, head+"ret; "+f)
			continue
		}
		checkIf(t, true, f, head+"ret; "+f)
	}
}

// TestP5_1AllBoundsMet has a program of which nothing may be more.
func TestP5_1AllBoundsMet(t *testing.T) {
	instrs := "; " + repeat("get 0", 16) + strings.Repeat("drop; get 1; ", 119) + "jump 254; ret"
	first, other := "func 0 ppppnnnnnnnnnnnn 0 15"+instrs, "func 4 ppppnnnnnnnnnnnn 1 15"+instrs
	p := parse(t, first+strings.Repeat("; "+other, 15))
	list := slices.Repeat([]string{unreached}, 256)
	for at := range 255 {
		list[at] = strings.Repeat("P", min(at, 16-at%2))
	}
	list[0] = bare
	check(t, "all bounds met", p, slices.Repeat([][]string{list}, 16))
	for _, f := range p.Funcs {
		if len(f.Code) != 256 {
			t.Errorf("a function has %d instructions", len(f.Code))
		}
	}
}

// checkDepth has marks of which the longest one says whether it is too deep.
func checkDepth(t *testing.T, code string, marks ...string) {
	t.Helper()
	p, want := markedSurroundings(t, code, marks...)
	if slices.ContainsFunc(marks, func(m string) bool { return len(m) > 16 }) {
		checkNo(t, code, p, api.ErrBig)
		return
	}
	check(t, code, p, want)
}

func TestP5_1DepthOfEachOperation(t *testing.T) {
	for _, o := range operations() {
		for depth := len(o.takes); depth <= 20; depth++ {
			for _, letter := range []string{"N", "P"} {
				below := strings.Repeat(letter, depth-len(o.takes))
				s, marks := pushes(below + o.takes)
				marks = append(marks, markOf(below+o.takes), markOf(below+o.leaves))
				checkDepth(t, s+o.line+"; "+itself(depth+1), marks...)
			}
		}
	}
}

func TestP5_1DepthOfWhatDoesNotGoOn(t *testing.T) {
	for depth := 1; depth <= 20; depth++ {
		stack := strings.Repeat("P", depth-1) + "N"
		s, marks := pushes(stack)
		checkDepth(t, s+"panic", append(slices.Clone(marks), stack)...)
		checkDepth(t, s+"exit", append(slices.Clone(marks), stack)...)
		checkDepth(t, s+itself(depth), append(slices.Clone(marks), stack)...)
		checkDepth(t, s+"zero "+number(depth+1)+"; "+itself(depth+1), append(slices.Clone(marks), stack, markOf(stack[:depth-1]))...)
	}
}

// TestP5_1DepthOfUnreachableCode has what would be too deep, were it reachable.
func TestP5_1DepthOfUnreachableCode(t *testing.T) {
	for _, line := range []string{"const 1", "get 0", "recover", "in"} {
		checkIf(t, true, "func 0 n 0 -; ret; "+repeat(line, 40)+"exit", head+"ret; func 0 p 0 -; jump 0; "+repeat(line, 254)+"exit")
	}
}

func TestP5_1DepthOfEachFunction(t *testing.T) {
	good, deep := head+repeat("in", 16)+"exit; ", head+repeat("in", 17)+"exit; "
	for n := range 16 {
		checkNoText(t, api.ErrBig, strings.Repeat(good, n)+deep+strings.Repeat(good, 15-n))
	}
	checkIf(t, true, strings.Repeat(good, 16))
}

func TestP5_1DepthOnOnePath(t *testing.T) {
	checkNoText(t, api.ErrBig,
		head+"in; zero 3; ret; "+repeat("in", 17)+"exit",
		head+"in; zero 20; "+repeat("in", 17)+"exit; ret",
		head+repeat("in", 17)+repeat("drop", 17)+"ret",
		head+repeat("in", 16)+"dup; drop; jump 16",
	)
	checkIf(t, true,
		head+"in; zero 3; ret; "+repeat("in", 16)+"exit",
		head+repeat("in", 16)+repeat("drop", 16)+"jump 0",
		head+repeat("in", 15)+"dup; drop; jump 15",
	)
}

// samples are programs that Check takes.
func samples(t *testing.T) []api.Program {
	t.Helper()
	var list []api.Program
	for _, s := range []string{
		"func 0 - 0 -; ret",
		"func 0 np 0 -; in; zero 4; get 1; jump 5; addr 0; load; out; ret; in; jump 0",
		"func 0 - 0 -; in; in; dup; zero 4; jump 5; out; drop; ret; " + repeat("in", 12) + "ret",
		"func 0 n 0 0; addr 0; in; call 1; defer 2; ret; func 2 pn 1 1; defer 0; get 0; get 1; get 0; get 1; store; drop; load; ret; func 1 n 0 -; recover; panic; add",
		"func 0 - 0 -; recover; recover; recover; recover; zero 9; zero 8; exit; ret; jump 8; jump 9",
		"func 0 p 0 -; " + repeat("get 0", 16) + strings.Repeat("drop; dup; ", 100) + "jump 216",
	} {
		list = append(list, parse(t, s))
	}
	return list
}

// roomy is a program whose lists have spare capacity that is not empty.
func roomy(p api.Program) api.Program {
	const room = 5
	q := code.Copy(p)
	for n := range q.Funcs {
		f := &q.Funcs[n]
		f.Locals = append(f.Locals, slices.Repeat([]api.Kind{77}, room)...)[:len(f.Locals)]
		f.Code = append(f.Code, slices.Repeat([]api.Instr{{Op: 77}}, room)...)[:len(f.Code)]
	}
	q.Funcs = append(q.Funcs, slices.Repeat([]api.Func{{Params: 77}}, room)...)[:len(q.Funcs)]
	return q
}

// whole is a copy of a program with what lies in the spare capacity of its lists.
func whole(p api.Program) api.Program {
	q := api.Program{Funcs: slices.Clone(p.Funcs[:cap(p.Funcs)])}
	for n := range q.Funcs {
		f := &q.Funcs[n]
		f.Locals, f.Code = f.Locals[:cap(f.Locals)], f.Code[:cap(f.Code)]
	}
	return code.Copy(q)
}

func spoilProgram(p api.Program) {
	for _, f := range p.Funcs {
		fill(f.Locals, 77)
		fill(f.Code, api.Instr{Op: 77})
	}
	fill(p.Funcs, api.Func{Params: 77})
}

// fill a list and its spare capacity.
func fill[T any](list []T, x T) {
	list = list[:cap(list)]
	for n := range list {
		list[n] = x
	}
}

func TestP5_1LeavesTheProgramApart(t *testing.T) {
	list := samples(t)
	for _, x := range slices.Concat(formFaults(), boundFaults(t), kindFaults(t), depthFaults(t)) {
		list = append(list, api.Program{Funcs: []api.Func{x.f}})
	}
	for n, p := range list {
		q := roomy(p)
		want := whole(q)
		types, e := kinds.Check(q)
		if !code.Same(whole(q), want) {
			t.Errorf("program %d: Check changed it", n)
		}
		if e != api.OK {
			continue
		}
		marks := marksIn(t, types)
		spoilProgram(q)
		if !sameMarks(marksIn(t, types), marks) {
			t.Errorf("program %d: what Check returned changed with it", n)
		}
	}
}

// memory is one list of what Check returned: what it has, and how it is filled
// with something else, together with its spare capacity.
type memory struct {
	read  func() string
	spoil func()
}

func memoryOf[T any](elements []T, other T, told func(T) string) memory {
	read := func() string {
		var b strings.Builder
		for _, x := range elements {
			b.WriteString(told(x) + " ")
		}
		return b.String()
	}
	return memory{read, func() { fill(elements, other) }}
}

func lengthOf[T any](elements []T) string { return number(len(elements)) }

func kindNumber(k api.Kind) string { return number(int(k)) }

func memoriesOf(types *api.Types) []memory {
	all := []memory{
		memoryOf(types.Stacks, nil, lengthOf[[]api.Kind]),
		memoryOf(types.Reached, nil, lengthOf[bool]),
	}
	for n, stacks := range types.Stacks {
		all = append(all, memoryOf(stacks, make([]api.Kind, 99), lengthOf[api.Kind]))
		all = append(all, memoryOf(types.Reached[n], false, strconv.FormatBool))
		for _, stack := range stacks {
			all = append(all, memoryOf(stack, 77, kindNumber))
		}
	}
	return all
}

// checkApart spoils one of the lists of what Check returned: no other one changes.
func checkApart(t *testing.T, p api.Program, at int) {
	t.Helper()
	types, _ := kinds.Check(p)
	all := memoriesOf(types)
	var before []string
	for _, l := range all {
		before = append(before, l.read())
	}
	all[at].spoil()
	for n, l := range all {
		if n != at && l.read() != before[n] {
			t.Errorf("list %d changed with list %d of %v", n, at, p)
		}
	}
}

func TestP5_1ListsAreApart(t *testing.T) {
	for _, p := range samples(t) {
		types, e := kinds.Check(p)
		if e != api.OK {
			t.Errorf("Check returns %d; %v", int(e), p)
			continue
		}
		want := marksIn(t, types)
		all := memoriesOf(types)
		for at := range all {
			checkApart(t, p, at)
		}
		for _, l := range all {
			l.spoil()
		}
		check(t, "again", p, want)
	}
}

// TestP5_1NilAndEmpty has lists without anything, nil and not.
func TestP5_1NilAndEmpty(t *testing.T) {
	for _, locals := range [][]api.Kind{nil, {}} {
		f := api.Func{Locals: locals, Keep: -1, Code: []api.Instr{{Op: api.Ret}}}
		check(t, "no locals", api.Program{Funcs: []api.Func{f}}, [][]string{{bare}})
		for _, list := range [][]api.Instr{nil, {}} {
			f.Code = list
			checkNo(t, "no instructions", api.Program{Funcs: []api.Func{f}}, api.ErrKind)
		}
	}
}

// agree holds Check against the second reading, and says what both say.
func agree(t *testing.T, p api.Program) api.Errno {
	t.Helper()
	marks, e := verdict(p)
	if e == api.OK {
		check(t, "as read twice", p, marks)
	} else {
		checkNo(t, "as read twice", p, e)
	}
	return e
}

// alphabet is the instructions of short programs.
func alphabet(t *testing.T) []api.Instr {
	t.Helper()
	return parse(t, head+"const 1; get 0; get 1; get 2; set 0; set 1; addr 0; addr 1; load; store; add; below; "+
		"jump 0; jump 1; jump 2; jump 3; zero 0; zero 1; zero 2; zero 3; call 0; call 1; call 2; ret; "+
		"defer 1; defer 2; panic; recover; in; out; exit; drop; dup").Funcs[0].Code
}

// TestP5_1EachShortProgram has each code of up to three instructions, of a first
// function and of one with a result.
func TestP5_1EachShortProgram(t *testing.T) {
	first := parse(t, "func 0 np 0 -; ret; func 1 p 1 -; in; ret")
	second := parse(t, "func 0 - 0 -; ret; func 2 np 1 0; ret")
	letters := alphabet(t)
	found := map[api.Errno]int{}
	var extend func(list []api.Instr)
	extend = func(list []api.Instr) {
		first.Funcs[0].Code, second.Funcs[1].Code = list, list
		found[agree(t, first)]++
		found[agree(t, second)]++
		if len(list) == 3 || t.Failed() {
			return
		}
		for _, i := range letters {
			extend(append(slices.Clip(list), i))
		}
	}
	extend(nil)
	if found[api.OK] < 1000 || found[api.ErrKind] < 10000 {
		t.Errorf("too few programs of one sort: %v", found)
	}
}

// TestP5_1SomePrograms makes programs as a row of numbers says that is the same
// in each run.
func TestP5_1SomePrograms(t *testing.T) {
	row := rand.New(rand.NewSource(5))
	found := map[api.Errno]int{}
	for range 8000 {
		found[agree(t, someProgram(row))]++
		if t.Failed() {
			return
		}
	}
	if found[api.OK] < 4000 || found[api.ErrKind] < 400 || found[api.ErrBig] < 300 || found[api.ErrForm] < 50 {
		t.Errorf("too few programs of one sort: %v", found)
	}
}

func someProgram(row *rand.Rand) api.Program {
	var p api.Program
	for n := range 1 + row.Intn(4) {
		f := api.Func{Keep: -1}
		for range 1 + row.Intn(6) {
			f.Locals = append(f.Locals, api.Kind(row.Intn(2)))
		}
		if n > 0 || row.Intn(50) == 0 {
			f.Params = row.Intn(min(4, len(f.Locals)) + 1)
			f.Result = row.Intn(2) == 0
		}
		if keep := row.Intn(len(f.Locals)); f.Locals[keep] == api.Num || row.Intn(50) == 0 {
			f.Keep = keep
		}
		p.Funcs = append(p.Funcs, f)
	}
	for n := range p.Funcs {
		p.Funcs[n].Code = someCode(row, p, p.Funcs[n])
	}
	if row.Intn(50) == 0 {
		p.Funcs[row.Intn(len(p.Funcs))].Keep = 255
	}
	return p
}

// someCode is mostly right: it goes on with what may stand on the stack that the
// text of it has led to, and jumps mostly to where that stack is.
func someCode(row *rand.Rand, p api.Program, f api.Func) []api.Instr {
	var list []api.Instr
	var before []string // by instruction, its stack
	stack := ""
	grows := row.Intn(3) == 0
	for range 2 + row.Intn(50) {
		i, left := someStep(row, p, f, stack, grows)
		list, before = append(list, i), append(before, stack)
		stack = left
		if len(nexts(0, i)) == 0 || i.Op == api.Jump {
			stack = before[row.Intn(len(before))]
		}
	}
	list, before = append(list, api.Instr{Op: api.Jump}), append(before, stack)
	for at := range list {
		if i := &list[at]; i.Op == api.Jump || i.Op == api.Zero {
			left, _ := after(p, f, *i, before[at])
			i.Arg = someTarget(row, before, left)
		}
	}
	return list
}

// someStep is an instruction and the stack that it leaves, which is mostly a
// greater one if it grows.
func someStep(row *rand.Rand, p api.Program, f api.Func, stack string, grows bool) (api.Instr, string) {
	for {
		i := api.Instr{Op: api.Op(1 + row.Intn(32))}
		switch i.Op {
		case api.Const:
			i.Imm = row.Uint64()
		case api.Get, api.Set, api.Addr:
			i.Arg = row.Intn(len(f.Locals))
		case api.Call, api.Defer:
			i.Arg = row.Intn(len(p.Funcs))
		}
		left, ok := after(p, f, i, stack)
		if i.Op == api.Addr && f.Locals[i.Arg] == api.Ptr || i.Op == api.Defer && f.Result && f.Keep < 0 {
			ok = false
		}
		if grows && len(left) <= len(stack) {
			ok = ok && row.Intn(5) == 0
		}
		if ok || row.Intn(600) == 0 {
			return i, left
		}
	}
}

func someTarget(row *rand.Rand, before []string, left string) int {
	for range 200 {
		if at := row.Intn(len(before)); before[at] == left {
			return at
		}
	}
	return row.Intn(len(before) + 1)
}

// FuzzCheck holds Check against the second reading.
func FuzzCheck(f *testing.F) {
	row := rand.New(rand.NewSource(6))
	for range 100 {
		if b, e := code.Encode(someProgram(row)); e == api.OK {
			f.Add(b)
		}
	}
	f.Fuzz(func(t *testing.T, b []byte) {
		if p, e := code.Decode(b); e == api.OK {
			agree(t, p)
		}
	})
}

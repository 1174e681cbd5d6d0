package kinds_test

import (
	"regexp"
	"slices"
	"strings"
	"sync"

	"windlass/api"
	"windlass/code"
)

// This is a second reading of the rules, to hold Check against: stacks are
// texts, what an instruction takes is an expression, and a path's stacks are
// gathered until there are no more.

// unreached is the mark of an instruction that is not reachable; that of another
// one is its stack, and bare for an empty one.
const (
	unreached = "x"
	bare      = "."
)

// verdict is what Check has to return: a mark for each instruction, or an error.
func verdict(p api.Program) ([][]string, api.Errno) {
	if _, e := code.Encode(p); e != api.OK {
		return nil, api.ErrForm
	}
	if !code.Bounded(p) {
		return nil, api.ErrBig
	}
	var marks [][]string
	deep := false
	for n := range p.Funcs {
		list := marksOf(p, n)
		if list == nil || !refersWell(p, n) {
			return nil, api.ErrKind
		}
		marks = append(marks, list)
		deep = deep || slices.ContainsFunc(list, func(m string) bool { return len(m) > 16 })
	}
	if deep {
		return nil, api.ErrBig
	}
	return marks, api.OK
}

func refersWell(p api.Program, n int) bool {
	f := p.Funcs[n]
	if n == 0 && (f.Params != 0 || f.Result) {
		return false
	}
	letters := lettersOf(f.Locals) + strings.Repeat("?", 256)
	if f.Keep >= 0 && letters[f.Keep] != 'N' {
		return false
	}
	defers := 0
	for _, i := range f.Code {
		switch {
		case i.Op == api.Addr && letters[i.Arg] != 'N',
			i.Op == api.Get && letters[i.Arg] == '?',
			i.Op == api.Set && letters[i.Arg] == '?',
			i.Op == api.Jump && i.Arg > len(f.Code)-1,
			i.Op == api.Zero && i.Arg > len(f.Code)-1,
			i.Op == api.Call && i.Arg > len(p.Funcs)-1,
			i.Op == api.Defer && i.Arg > len(p.Funcs)-1:
			return false
		case i.Op == api.Defer:
			defers++
		}
	}
	return !(defers > 0 && f.Result && f.Keep == -1)
}

func lettersOf(list []api.Kind) string {
	var b strings.Builder
	for _, k := range list {
		b.WriteByte("NP"[k])
	}
	return b.String()
}

// marksOf a function, one for each instruction; nil if its stacks or successors
// are not right.
func marksOf(p api.Program, n int) []string {
	f := p.Funcs[n]
	if len(f.Code) == 0 {
		return nil
	}
	found := make([]map[string]bool, len(f.Code))
	found[0] = map[string]bool{"": true}
	for changed := true; changed; {
		changed = false
		for at, i := range f.Code {
			for s := range found[at] {
				left, ok := after(p, f, i, s)
				if !ok {
					return nil
				}
				for _, next := range nexts(at, i) {
					if next >= len(f.Code) {
						return nil
					}
					if found[next] == nil {
						found[next] = map[string]bool{}
					}
					changed = changed || !found[next][left]
					found[next][left] = true
					if len(found[next]) > 1 {
						return nil
					}
				}
			}
		}
	}
	return marksFound(found)
}

func marksFound(found []map[string]bool) []string {
	marks := slices.Repeat([]string{unreached}, len(found))
	for at, stacks := range found {
		for s := range stacks {
			marks[at] = markOf(s)
		}
	}
	return marks
}

func markOf(stack string) string {
	if stack == "" {
		return bare
	}
	return stack
}

func nexts(at int, i api.Instr) []int {
	next := map[api.Op][]int{api.Jump: {i.Arg}, api.Zero: {i.Arg, at + 1}, api.Ret: {}, api.Panic: {}, api.Exit: {}}
	if list, ok := next[i.Op]; ok {
		return list
	}
	return []int{at + 1}
}

// after an instruction, a stack is what is left when its end, an expression, is
// replaced.
func after(p api.Program, f api.Func, i api.Instr, stack string) (string, bool) {
	takes, leaves := ends(p, f, i)
	at := expression(takes).FindStringSubmatchIndex(stack)
	if at == nil {
		return "", false
	}
	return stack[:at[0]] + string(expression(takes).ExpandString(nil, leaves, stack, at)), true
}

var expressions sync.Map

func expression(s string) *regexp.Regexp {
	if r, ok := expressions.Load(s); ok {
		return r.(*regexp.Regexp)
	}
	r := regexp.MustCompile(s)
	expressions.Store(s, r)
	return r
}

// never is an expression of what no stack has.
const never = "[?]"

// ends are what an instruction takes, as an expression, and leaves in its place.
// An instruction that refers to nothing that exists takes what never is there.
func ends(p api.Program, f api.Func, i api.Instr) (takes, leaves string) {
	switch i.Op {
	case api.Const, api.In:
		return "$", "N"
	case api.Get:
		return "$", localLetter(f, i.Arg)
	case api.Set:
		return localLetter(f, i.Arg) + "$", ""
	case api.Addr:
		return "$", "P"
	case api.Load:
		return "P$", "N"
	case api.Store:
		return "PN$", ""
	case api.Jump:
		return "$", ""
	case api.Zero, api.Out, api.Panic, api.Exit:
		return "N$", ""
	case api.Ret:
		return "^" + resultLetter(f) + "$", ""
	case api.Call, api.Defer:
		return calledEnds(p, i)
	case api.Recover:
		return "$", "NN"
	case api.Drop:
		return "[NP]$", ""
	case api.Dup:
		return "([NP])$", "$1$1"
	}
	return "NN$", "N"
}

func calledEnds(p api.Program, i api.Instr) (takes, leaves string) {
	if i.Arg >= len(p.Funcs) {
		return never, ""
	}
	g := p.Funcs[i.Arg]
	takes = lettersOf(g.Locals[:g.Params]) + "$"
	if i.Op == api.Call {
		leaves = resultLetter(g)
	}
	return takes, leaves
}

func localLetter(f api.Func, local int) string {
	if local >= len(f.Locals) {
		return never
	}
	return lettersOf(f.Locals[local : local+1])
}

func resultLetter(f api.Func) string {
	if f.Result {
		return "N"
	}
	return ""
}

package samples

import (
	"slices"
	"strconv"
	"strings"

	"windlass/api"
	"windlass/text"
)

// Program of a text: lines of layer 4 that are separated by semicolons. An
// instruction may have a name and a colon ahead of it; jump and zero of its
// function take the name. It answers false if the text is no program.
func Program(s string) (api.Program, bool) {
	var lines []string
	for f := range strings.SplitSeq(s, "func") {
		lines = append(lines, withoutNames(f))
	}
	p, _, e := text.Parse(strings.Join(lines, "func"))
	return p, e == api.OK
}

// named is an instruction that has a name.
type named struct {
	name string
	at   int
}

// withoutNames of the lines of one function, the first of which is its heading.
func withoutNames(s string) string {
	lines := slices.DeleteFunc(strings.Split(s, ";"), isBlank)
	var all []named
	for i, line := range lines {
		if name, rest, ok := strings.Cut(line, ":"); ok {
			lines[i] = rest
			all = append(all, named{strings.TrimSpace(name), i - 1})
		}
	}
	for i, line := range lines {
		lines[i] = withNumber(line, all)
	}
	return strings.Join(lines, "\n") + "\n"
}

func isBlank(line string) bool {
	return strings.TrimSpace(line) == ""
}

// withNumber is a line with an instruction's number where it has a name.
func withNumber(line string, all []named) string {
	for _, n := range all {
		if before, ok := strings.CutSuffix(strings.TrimSpace(line), " "+n.name); ok {
			return before + " " + strconv.Itoa(n.at)
		}
	}
	return line
}

// Printed is a program as a text of this kind.
func Printed(p api.Program) string {
	s, _ := text.Print(p)
	return strings.ReplaceAll(s, "\n", "; ")
}

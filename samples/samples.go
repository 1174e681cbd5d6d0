// Package samples has programs for the tests of the layers that run them:
// examples of all that a program can do, with what is to come of each; all
// programs of a short form; and programs that are made up, from a seed.
package samples

import (
	"strings"

	"windlass/api"
)

// Example is a program, as Program takes it, and what is to come of its run.
type Example struct {
	Code    string // without the first function's heading, if that is Heading
	Tape    []uint64
	Want    string  // as layer 2 prints it
	Numbers Numbers // the zero value: not told
}

// Numbers of a run with Plenty of fuel: its steps, and the greatest numbers at
// one time.
type Numbers struct{ Steps, Depth, Defers, Panics int }

// Plenty is fuel for all of an example that ends.
const Plenty = 5000

// Heading of a function that has nothing but its code.
const Heading = "func 0 - 0 -; "

// The panics that nobody raised.
const (
	ByZero = "panic=18446744073709551615"
	ByNull = "panic=18446744073709551614"
)

// Functions that many examples end with.
const (
	Tell     = "; func 1 n 0 -; get 0; out; ret"              // its argument
	Told2    = "; func 2 nn 0 -; get 0; out; get 1; out; ret" // its two
	Catches  = "; " + Heading + "recover; out; out; ret"      // whether there was a panic, and its value
	Quiet    = "; " + Heading + "recover; drop; drop; ret"
	Nothing  = "; " + Heading + "ret"
	Panics6  = "; " + Heading + "const 6; panic"
	Tells100 = "; " + Heading + "const 100; out; ret"
)

// Whole is the text of an example.
func (x Example) Whole() string {
	if strings.HasPrefix(x.Code, "func") {
		return x.Code
	}
	return Heading + x.Code
}

// Program of an example; false if its text is none.
func (x Example) Program() (api.Program, bool) {
	return Program(x.Whole())
}

// All examples.
func All() []Example {
	var list []Example
	for _, l := range [][]Example{
		Chapter(), Operations(), Pointers(), Tapes(), Stacks(), Jumps(), Parameters(),
		Defers(), Ends(), Panics(), Recovers(), Kept(), Lists(), Greatest(),
	} {
		list = append(list, l...)
	}
	return list
}

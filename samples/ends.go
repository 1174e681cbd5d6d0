package samples

// Defers: the deferred calls of frames that end without a panic.
func Defers() []Example {
	return []Example{
		// The last first, each once.
		{Code: "const 1; defer 1; const 2; defer 1; const 3; defer 1; const 9; out; ret" + Tell, Want: "out=9 out=3 out=2 out=1 exit=0", Numbers: Numbers{18, 2, 3, 0}},
		{Code: "const 1; const 2; const 3; const 4; defer 1; defer 1; ret" + Told2, Want: "out=1 out=2 out=3 out=4 exit=0", Numbers: Numbers{17, 2, 2, 0}},
		{Code: "defer 1; defer 2; defer 1; ret" + Tells100 + "; " + Heading + "const 200; out; ret", Want: "out=100 out=200 out=100 exit=0", Numbers: Numbers{13, 2, 3, 0}},
		{Code: "defer 1; ret" + Nothing, Want: "exit=0", Numbers: Numbers{3, 2, 1, 0}},
		// With arguments as they were.
		{Code: "func 0 n 0 -; const 5; set 0; get 0; defer 1; const 6; set 0; get 0; defer 1; const 7; set 0; get 0; out; ret" + Tell, Want: "out=7 out=6 out=5 exit=0"},
		{Code: "func 0 n 0 -; const 5; set 0; get 0; defer 1; const 1; const 2; const 3; add; add; out; ret" + Tell, Want: "out=6 out=5 exit=0"},
		{Code: "const 5; const 6; defer 1; const 7; const 8; defer 1; const 9; const 10; call 1; ret" + Told2, Want: "out=9 out=10 out=7 out=8 out=5 out=6 exit=0"},
		{Code: "const 1; const 2; const 3; const 4; defer 1; const 5; out; ret; func 4 nnnn 0 -; get 0; out; get 1; out; get 2; out; get 3; out; ret", Want: "out=5 out=1 out=2 out=3 out=4 exit=0"},
		{Code: "in; defer 1; in; defer 1; in; out; ret" + Tell, Tape: []uint64{7, 8, 9}, Want: "in=7 in=8 in=9 out=9 out=8 out=7 exit=0"},
		// A deferred call that changes its own arguments changes nobody else's.
		{Code: "const 4; dup; defer 1; defer 1; ret; func 1 n 0 -; get 0; out; const 8; set 0; get 0; out; ret", Want: "out=4 out=8 out=4 out=8 exit=0"},
		// Deferred calls that defer.
		{Code: "const 3; defer 1; ret; func 1 n 0 -; get 0; zero a; get 0; const 1; sub; defer 1; a: get 0; out; ret", Want: "out=3 out=2 out=1 out=0 exit=0", Numbers: Numbers{3 + 3*9 + 5, 5, 1, 0}},
		{Code: "defer 1; const 1; out; ret; " + Heading + "defer 2; defer 3; const 2; out; ret; " + Heading + "const 3; out; ret; " + Heading + "defer 2; const 4; out; ret", Want: "out=1 out=2 out=4 out=3 out=3 exit=0", Numbers: Numbers{4 + 5 + 4 + 2*3, 4, 2, 0}},
		{Code: "defer 2; defer 1; ret; " + Heading + "defer 3; const 1; out; ret; " + Heading + "const 2; out; ret; " + Heading + "const 3; out; ret", Want: "out=1 out=3 out=2 exit=0", Numbers: Numbers{13, 3, 2, 0}},
		{Code: "defer 1; ret; " + Heading + "defer 1; ret", Want: "fuel", Numbers: Numbers{Plenty, 1 + Plenty/2, 1, 0}},
		// The result of a deferred call is ignored, wherever it is.
		{Code: "call 1; out; ret; func 0 n 1 0; defer 2; const 7; ret; func 0 - 1 -; const 9; ret", Want: "out=7 exit=0", Numbers: Numbers{8, 3, 1, 0}},
		{Code: "const 5; call 1; out; ret; " + Heading + "defer 2; ret; func 0 - 1 -; const 9; ret", Want: "out=5 exit=0"},
		{Code: "defer 1; ret; func 0 - 1 -; const 9; ret", Want: "exit=0"},
		{Code: "const 4; defer 1; out; ret; func 0 - 1 -; const 9; ret", Want: "out=4 exit=0"},
		{Code: "defer 1; const 3; panic; func 0 - 1 -; const 9; ret", Want: "panic=3"},
		{Code: "call 1; out; ret; func 0 n 1 0; const 2; set 0; defer 2; const 8; panic; func 0 - 1 -; recover; drop; drop; const 9; ret", Want: "out=2 exit=0"},
		{Code: "defer 1; ret; func 0 - 1 -; call 2; out; const 9; ret; func 0 - 1 -; const 8; ret", Want: "out=8 exit=0"},
		// In called functions, at each one's own end.
		{Code: "defer 1; call 2; const 2; out; ret; " + Heading + "const 1; out; ret; " + Heading + "defer 3; const 4; out; ret; " + Heading + "const 3; out; ret", Want: "out=4 out=3 out=2 out=1 exit=0", Numbers: Numbers{15, 3, 2, 0}},
		{Code: "call 1; call 1; const 5; out; ret; " + Heading + "const 6; defer 2; const 7; out; ret" + Tell, Want: "out=7 out=6 out=7 out=6 out=5 exit=0", Numbers: Numbers{21, 3, 1, 0}},
		{Code: "const 3; call 1; out; ret; func 1 nn 1 1; get 0; defer 2; get 0; zero a; get 0; const 1; sub; call 1; get 0; add; ret; a: const 50; ret" + Tell, Want: "out=0 out=1 out=2 out=3 out=56 exit=0", Numbers: Numbers{4 + 3*11 + 6 + 4*3, 6, 4, 0}},
		// In loops.
		{Code: "func 0 n 0 -; const 4; set 0; a: get 0; zero b; get 0; defer 1; get 0; const 1; sub; set 0; jump a; b: ret" + Tell, Want: "out=1 out=2 out=3 out=4 exit=0", Numbers: Numbers{53, 2, 4, 0}},
		{Code: "func 0 n 0 -; const 3; set 0; a: get 0; zero b; get 0; call 1; get 0; const 1; sub; set 0; jump a; b: ret; func 1 n 0 -; get 0; defer 2; get 0; defer 2; ret" + Tell, Want: "out=3 out=3 out=2 out=2 out=1 out=1 exit=0", Numbers: Numbers{2 + 3*9 + 3 + 3*5 + 6*3, 3, 2, 0}},
		{Code: "a: defer 1; jump a" + Tells100, Want: "fuel", Numbers: Numbers{Plenty, 1, Plenty / 2, 0}},
	}
}

// Ends: what frames end with, and how runs do.
func Ends() []Example {
	return []Example{
		// A number that is returned stays, whatever deferred calls do to locals.
		{Code: "call 1; out; ret; func 0 n 1 0; addr 0; defer 2; const 7; set 0; get 0; ret; func 1 p 0 -; get 0; const 9; store; ret", Want: "out=7 exit=0"},
		{Code: "call 1; out; ret; func 0 n 1 0; addr 0; defer 2; const 7; ret; func 1 p 0 -; recover; drop; drop; get 0; const 9; store; ret", Want: "out=7 exit=0"},
		{Code: "const 40; call 1; add; out; ret; func 0 n 1 0; defer 2; const 2; ret; func 0 n 1 0; defer 3; const 3; ret; func 0 - 1 -; const 4; ret", Want: "out=42 exit=0", Numbers: Numbers{13, 4, 1, 0}},
		// A function without a result ends with nothing, with a Keep too.
		{Code: "const 5; call 1; out; ret; func 0 n 0 0; const 7; set 0; defer 2; ret" + Nothing, Want: "out=5 exit=0"},
		// exit ends the run: no deferred call is made.
		{Code: "defer 1; const 3; exit" + Tells100, Want: "exit=3", Numbers: Numbers{3, 1, 1, 0}},
		{Code: "defer 1; call 2; ret" + Tells100 + "; " + Heading + "defer 1; defer 1; const 4; exit", Want: "exit=4", Numbers: Numbers{6, 2, 3, 0}},
		{Code: "defer 1; defer 2; ret" + Tells100 + "; " + Heading + "const 4; exit", Want: "exit=4", Numbers: Numbers{5, 2, 2, 0}},
		{Code: "defer 1; defer 2; const 5; panic" + Tells100 + "; " + Heading + "const 4; exit", Want: "exit=4", Numbers: Numbers{6, 2, 2, 1}},
		{Code: "defer 1; defer 2; const 5; panic" + Tells100 + "; " + Heading + "recover; exit", Want: "exit=1", Numbers: Numbers{6, 2, 2, 1}},
		{Code: "defer 1; defer 2; const 5; panic" + Tells100 + "; " + Heading + "defer 1; recover; drop; exit", Want: "exit=5", Numbers: Numbers{8, 2, 2, 1}},
		{Code: "call 1; ret; " + Heading + "call 2; ret; " + Heading + "const 4; exit", Want: "exit=4", Numbers: Numbers{4, 3, 0, 0}},
		{Code: "defer 1; ret; " + Heading + "defer 2; ret; " + Heading + "defer 1; const 2; exit", Want: "exit=2", Numbers: Numbers{7, 3, 1, 0}},
		// The main function's end is the run's, with 0, whatever it has done.
		{Code: "func 0 n 0 0; const 7; set 0; defer 1; const 1; panic" + Quiet, Want: "exit=0"},
		{Code: "func 0 n 0 0; const 7; set 0; defer 1; ret" + Quiet, Want: "exit=0"},
		{Code: "call 0; ret", Want: "fuel", Numbers: Numbers{Plenty, Plenty + 1, 0, 0}},
		// A main function that is called again is called.
		{Code: "in; zero a; call 0; const 2; out; ret; a: const 1; out; ret", Tape: []uint64{1, 1, 0}, Want: "in=1 in=1 in=0 out=1 out=2 out=2 exit=0", Numbers: Numbers{17, 3, 0, 0}},
		{Code: "in; zero a; defer 0; const 2; out; ret; a: const 1; out; ret", Tape: []uint64{1, 1, 0}, Want: "in=1 out=2 in=1 out=2 in=0 out=1 exit=0", Numbers: Numbers{17, 3, 1, 0}},
	}
}

// Panics that nobody recovers.
func Panics() []Example {
	return []Example{
		// Through several frames, with and without deferred calls.
		{Code: "call 1; const 1; out; ret; " + Heading + "call 2; const 2; out; ret; " + Heading + "const 3; panic", Want: "panic=3", Numbers: Numbers{4, 3, 0, 1}},
		{Code: "defer 3; call 1; const 1; out; ret; " + Heading + "call 2; const 2; out; ret; " + Heading + "const 3; panic" + Tells100, Want: "out=100 panic=3", Numbers: Numbers{8, 3, 1, 1}},
		{Code: "const 1; defer 3; call 1; ret; " + Heading + "const 2; defer 3; call 2; ret; " + Heading + "const 3; defer 3; const 4; defer 3; const 9; panic" + Tell, Want: "out=4 out=3 out=2 out=1 panic=9", Numbers: Numbers{24, 4, 4, 1}},
		{Code: "const 1; defer 3; call 1; ret; " + Heading + "call 2; ret; " + Heading + "const 3; defer 3; const 9; panic" + Tell, Want: "out=3 out=1 panic=9"},
		{Code: "defer 1; ret; " + Heading + "defer 2; const 4; panic" + Tells100, Want: "out=100 panic=4", Numbers: Numbers{8, 3, 1, 1}},
		// Those of the operations, too.
		{Code: "defer 1; const 1; const 0; rem; out; ret" + Tells100, Want: "out=100 " + ByZero, Numbers: Numbers{7, 2, 1, 1}},
		{Code: "defer 1; call 2; ret" + Tells100 + "; " + Heading + "const 1; const 0; div; out; ret", Want: "out=100 " + ByZero},
		{Code: "defer 1; const 1; const 0; div; out; ret" + Catches, Want: "out=1 out=18446744073709551615 exit=0"},
		{Code: "const 0; const 0; div; out; ret", Want: ByZero},
		{Code: "const 9223372036854775808; const 18446744073709551615; div; out; const 9223372036854775808; const 18446744073709551615; rem; out; ret", Want: "out=9223372036854775808 out=0 exit=0"},
		// A panic in a deferred call takes the place of the one that called it.
		{Code: "defer 1; const 5; panic" + Panics6, Want: "panic=6", Numbers: Numbers{5, 2, 1, 2}},
		{Code: "defer 1; defer 2; const 5; panic" + Panics6 + "; " + Heading + "const 7; panic", Want: "panic=6", Numbers: Numbers{8, 2, 2, 2}},
		{Code: "defer 1; defer 2; defer 1; ret" + Tells100 + Panics6, Want: "out=100 out=100 panic=6", Numbers: Numbers{12, 2, 3, 1}},
		{Code: "defer 1; const 5; panic; " + Heading + "defer 2; const 6; panic; " + Heading + "defer 3; const 7; panic; " + Heading + "const 8; panic", Want: "panic=8", Numbers: Numbers{11, 4, 1, 4}},
		{Code: "defer 1; const 5; panic; " + Heading + "call 2; ret; " + Heading + "call 3; ret; " + Heading + "const 8; panic", Want: "panic=8", Numbers: Numbers{7, 4, 1, 2}},
		{Code: "defer 1; defer 2; const 5; panic" + Tells100 + "; " + Heading + "defer 1; const 6; panic", Want: "out=100 out=100 panic=6", Numbers: Numbers{13, 3, 2, 2}},
		{Code: "defer 1; ret" + Panics6, Want: "panic=6", Numbers: Numbers{4, 2, 1, 1}},
		{Code: "const 1; defer 1; const 2; defer 1; const 3; panic; func 1 n 0 -; get 0; panic", Want: "panic=1", Numbers: Numbers{10, 2, 2, 2}},
		{Code: "defer 1; const 0; const 0; div; out; ret; func 0 p 0 -; get 0; load; drop; ret", Want: ByNull},
		// A deferred call that ends by itself leaves the panic as it is.
		{Code: "defer 1; defer 2; const 5; panic; " + Heading + "call 2; ret" + Tells100, Want: "out=100 out=100 panic=5", Numbers: Numbers{12, 3, 2, 1}},
	}
}

// Recovers: where recover finds a panic, and where none.
func Recovers() []Example {
	return []Example{
		{Code: "defer 1; const 5; panic" + Catches, Want: "out=1 out=5 exit=0", Numbers: Numbers{7, 2, 1, 1}},
		{Code: "defer 1; const 0; panic" + Catches, Want: "out=1 out=0 exit=0"},
		{Code: "call 1; const 2; out; ret; " + Heading + "defer 2; call 3; const 3; out; ret" + Catches + "; " + Heading + "const 5; panic", Want: "out=1 out=5 out=2 exit=0", Numbers: Numbers{12, 3, 1, 1}},
		// Under it the stack of the frame is as it was.
		{Code: "defer 1; const 5; panic; " + Heading + "const 8; const 9; recover; out; out; out; out; ret", Want: "out=1 out=5 out=9 out=8 exit=0"},
		// A second time in the frame.
		{Code: "defer 1; const 5; panic; " + Heading + "recover; recover; out; out; out; out; ret", Want: "out=0 out=0 out=1 out=5 exit=0"},
		{Code: "defer 1; const 5; panic; " + Heading + "recover; out; out; recover; out; out; recover; out; out; ret", Want: "out=1 out=5 out=0 out=0 out=0 out=0 exit=0"},
		// In a frame that such a frame calls, before and behind its own.
		{Code: "defer 1; const 5; panic; " + Heading + "call 2; ret" + Catches, Want: "out=0 out=0 panic=5", Numbers: Numbers{9, 3, 1, 1}},
		{Code: "defer 1; const 5; panic; " + Heading + "call 2; recover; out; out; call 2; ret" + Catches, Want: "out=0 out=0 out=1 out=5 out=0 out=0 exit=0"},
		{Code: "defer 1; const 5; panic; " + Heading + "defer 2; ret" + Catches, Want: "out=0 out=0 panic=5", Numbers: Numbers{9, 3, 1, 1}},
		{Code: "defer 1; const 5; panic; " + Heading + "recover; out; out; defer 2; ret" + Catches, Want: "out=1 out=5 out=0 out=0 exit=0"},
		{Code: "defer 1; const 5; panic; " + Heading + "call 2; ret; " + Heading + "defer 3; ret" + Catches, Want: "out=0 out=0 panic=5"},
		// In a deferred call of a frame that ends without a panic.
		{Code: "defer 1; ret" + Catches, Want: "out=0 out=0 exit=0", Numbers: Numbers{6, 2, 1, 0}},
		{Code: "call 1; ret; " + Heading + "defer 2; ret" + Catches, Want: "out=0 out=0 exit=0"},
		{Code: "defer 1; defer 1; const 5; panic" + Catches, Want: "out=1 out=5 out=0 out=0 exit=0", Numbers: Numbers{12, 2, 2, 1}},
		// In the first function, and in one that is called.
		{Code: "recover; out; out; ret", Want: "out=0 out=0 exit=0", Numbers: Numbers{4, 1, 0, 0}},
		{Code: "call 1; ret" + Catches, Want: "out=0 out=0 exit=0"},
		{Code: "defer 1; ret; " + Heading + "recover; out; out; defer 2; const 6; panic" + Catches, Want: "out=0 out=0 out=1 out=6 exit=0"},
		// Whoever recovers: not the one that was deferred in the frame that panics first.
		{Code: "defer 1; call 2; ret" + Catches + "; " + Heading + "defer 3; const 5; panic" + Tells100, Want: "out=100 out=1 out=5 exit=0"},
		{Code: "defer 1; call 2; ret" + Catches + "; " + Heading + "defer 3; const 5; panic; " + Heading + "call 1; ret", Want: "out=0 out=0 out=1 out=5 exit=0"},
		{Code: "defer 1; defer 2; const 5; panic" + Catches + Tells100, Want: "out=100 out=1 out=5 exit=0"},
		// The frame below ends: what is behind its call is not executed, and its own deferred calls are made.
		{Code: "call 1; const 2; out; ret; " + Heading + "defer 3; defer 2; const 5; panic" + Quiet + Tells100, Want: "out=100 out=2 exit=0", Numbers: Numbers{15, 3, 2, 1}},
		{Code: "call 1; const 2; out; ret; " + Heading + "defer 2; call 3; const 3; out; ret" + Quiet + "; " + Heading + "call 4; ret; " + Heading + "const 9; panic", Want: "out=2 exit=0"},
	}
}

// Kept: what a function answers that was recovered.
func Kept() []Example {
	return []Example{
		{Code: "call 1; out; ret; func 0 n 1 0; const 3; set 0; defer 2; const 9; panic" + Quiet, Want: "out=3 exit=0"},
		{Code: "call 1; out; ret; func 0 n 1 0; defer 2; const 9; panic" + Quiet, Want: "out=0 exit=0"},
		{Code: "call 1; out; ret; func 0 pnn 1 2; const 3; set 1; const 4; set 2; defer 2; const 9; panic" + Quiet, Want: "out=4 exit=0"},
		{Code: "const 8; call 1; out; ret; func 1 nn 1 0; const 5; set 1; defer 2; const 9; panic" + Quiet, Want: "out=8 exit=0"},
		{Code: "const 8; const 7; call 1; out; out; ret; func 1 nn 1 0; const 5; set 1; defer 2; const 9; get 0; panic" + Quiet, Want: "out=7 out=8 exit=0"},
		{Code: "call 1; out; ret; func 0 n 1 0; const 3; set 0; defer 2; call 3; ret" + Quiet + "; func 0 n 1 0; const 4; set 0; const 5; panic", Want: "out=3 exit=0"},
		// Without a Keep, and without a result.
		{Code: "const 8; call 1; out; ret; func 0 n 0 -; const 3; set 0; defer 2; const 9; panic" + Quiet, Want: "out=8 exit=0"},
		{Code: "const 8; call 1; out; ret; func 0 n 0 0; const 3; set 0; defer 2; const 9; panic" + Quiet, Want: "out=8 exit=0"},
		// The local as it is when the frame ends: deferred calls before that store to it, those behind do so too late.
		{Code: "call 1; out; ret; func 0 n 1 0; const 3; set 0; addr 0; defer 2; const 9; panic; func 1 p 0 -; recover; drop; drop; get 0; const 44; store; ret", Want: "out=44 exit=0"},
		{Code: "call 1; out; ret; func 0 n 1 0; const 3; set 0; addr 0; defer 2; const 9; panic; func 1 p 0 -; get 0; get 0; load; const 41; add; store; recover; drop; drop; ret", Want: "out=44 exit=0"},
		{Code: "call 1; out; ret; func 0 n 1 0; defer 2; addr 0; defer 3; const 9; panic" + Quiet + "; func 1 p 0 -; get 0; const 44; store; ret", Want: "out=44 exit=0"},
		{Code: "call 1; out; ret; func 0 n 1 0; const 3; set 0; addr 0; defer 3; defer 2; const 9; panic" + Quiet + "; func 1 p 0 -; get 0; const 44; store; get 0; load; out; ret", Want: "out=44 out=3 exit=0"},
		{Code: "call 1; out; ret; func 0 n 1 0; addr 0; defer 2; const 9; panic; func 1 p 0 -; get 0; const 44; store; get 0; defer 3; recover; drop; drop; ret; func 1 p 0 -; get 0; const 55; store; ret", Want: "out=55 exit=0"},
		{Code: "call 1; out; ret; func 0 nn 1 1; const 3; set 0; const 4; set 1; addr 0; defer 2; const 9; panic; func 1 p 0 -; recover; drop; drop; get 0; const 44; store; ret", Want: "out=4 exit=0"},
		// What was to be returned is forgotten.
		{Code: "call 1; out; ret; func 0 n 1 0; const 3; set 0; defer 2; defer 3; const 77; ret" + Quiet + Panics6, Want: "out=3 exit=0", Numbers: Numbers{15, 3, 2, 1}},
		{Code: "call 1; out; ret; func 0 n 1 0; const 3; set 0; defer 2; const 77; ret" + Quiet, Want: "out=77 exit=0"},
		// A frame that is recovered twice answers what its local is the second time.
		{Code: "call 1; out; ret; func 0 n 1 0; const 3; set 0; defer 2; addr 0; defer 3; defer 2; const 9; panic" + Quiet + "; func 1 p 0 -; get 0; const 44; store; const 8; panic", Want: "out=44 exit=0", Numbers: Numbers{24, 3, 3, 1}},
		// The number of a deferred function that was recovered is ignored like any other's.
		{Code: "call 1; out; ret; func 0 n 1 0; defer 2; const 7; ret; func 0 n 1 0; const 5; set 0; defer 3; const 9; panic" + Quiet, Want: "out=7 exit=0"},
		{Code: "call 1; out; ret; func 0 n 1 0; const 4; set 0; defer 2; const 7; panic; func 0 n 1 0; recover; drop; drop; const 5; set 0; defer 3; const 9; panic" + Quiet, Want: "out=4 exit=0"},
		{Code: "call 1; out; ret; func 0 n 1 0; const 4; set 0; defer 4; defer 2; const 7; panic; func 0 n 1 0; const 5; set 0; defer 3; const 9; panic" + Quiet + Catches, Want: "out=1 out=7 out=4 exit=0"},
	}
}

// Lists: panics in deferred calls, and panics that follow a recover.
func Lists() []Example {
	return []Example{
		// Before a recover, in a row: the last one is recovered.
		{Code: "defer 1; defer 2; const 5; panic" + Catches + Panics6, Want: "out=1 out=6 exit=0", Numbers: Numbers{10, 2, 2, 2}},
		{Code: "defer 1; const 7; defer 2; const 6; defer 2; const 5; panic" + Catches + "; func 1 n 0 -; get 0; panic", Want: "out=1 out=7 exit=0", Numbers: Numbers{15, 2, 3, 2}},
		{Code: "defer 1; defer 2; const 5; panic" + Catches + "; " + Heading + "defer 3; const 6; panic; " + Heading + "defer 4; const 7; panic; " + Heading + "const 8; panic", Want: "out=1 out=8 exit=0", Numbers: Numbers{16, 4, 2, 4}},
		// In a deferred call whose own deferred call recovers it: the first one goes on.
		{Code: "defer 1; const 5; panic; " + Heading + "defer 2; const 6; panic" + Catches, Want: "out=1 out=6 panic=5", Numbers: Numbers{10, 3, 1, 2}},
		{Code: "defer 2; defer 1; const 5; panic; " + Heading + "defer 2; const 6; panic" + Catches, Want: "out=1 out=6 out=1 out=5 exit=0", Numbers: Numbers{15, 3, 2, 2}},
		{Code: "defer 2; defer 1; const 5; panic; " + Heading + "call 3; const 7; out; ret" + Catches + "; " + Heading + "defer 2; const 6; panic", Want: "out=1 out=6 out=7 out=1 out=5 exit=0", Numbers: Numbers{19, 4, 2, 2}},
		{Code: "defer 1; const 5; panic; " + Heading + "call 3; recover; out; out; ret" + Catches + "; " + Heading + "defer 2; const 6; panic", Want: "out=1 out=6 out=1 out=5 exit=0", Numbers: Numbers{15, 4, 1, 2}},
		{Code: "defer 1; const 5; panic; " + Heading + "recover; out; out; call 3; recover; out; out; ret" + Catches + "; " + Heading + "defer 2; const 6; panic", Want: "out=1 out=5 out=1 out=6 out=0 out=0 exit=0"},
		// Behind a recover, in the same frame: the recovered one goes when that frame does.
		{Code: "defer 1; const 5; panic; " + Heading + "recover; out; out; const 6; panic", Want: "out=1 out=5 panic=6", Numbers: Numbers{8, 2, 1, 2}},
		{Code: "defer 2; defer 1; const 5; panic; " + Heading + "recover; out; out; const 6; panic" + Catches, Want: "out=1 out=5 out=1 out=6 exit=0", Numbers: Numbers{13, 2, 2, 2}},
		{Code: "call 3; out; ret; " + Heading + "recover; out; out; defer 2; const 6; panic" + Catches + "; func 0 n 1 0; const 4; set 0; defer 1; const 5; panic", Want: "out=1 out=5 out=1 out=6 out=4 exit=0", Numbers: Numbers{18, 4, 1, 2}},
		{Code: "defer 1; const 5; panic; " + Heading + "recover; out; out; call 2; ret" + Panics6, Want: "out=1 out=5 panic=6", Numbers: Numbers{9, 3, 1, 2}},
		{Code: "defer 1; const 5; panic; " + Heading + "recover; out; out; defer 2; ret" + Panics6, Want: "out=1 out=5 panic=6", Numbers: Numbers{10, 3, 1, 2}},
		{Code: "defer 1; const 5; panic; " + Heading + "recover; out; out; const 1; const 0; div; out; ret", Want: "out=1 out=5 " + ByZero},
		// In the frame that ends because of it, and in the one that goes on.
		{Code: "defer 2; defer 1; const 5; panic" + Catches + Panics6, Want: "out=1 out=5 panic=6", Numbers: Numbers{4 + 4 + 2, 2, 2, 1}},
		{Code: "defer 1; defer 2; defer 1; const 5; panic" + Catches + Panics6, Want: "out=1 out=5 out=1 out=6 exit=0", Numbers: Numbers{5 + 4 + 2 + 4, 2, 3, 1}},
		{Code: "call 1; const 6; panic; " + Heading + "defer 2; const 5; panic" + Catches, Want: "out=1 out=5 panic=6", Numbers: Numbers{3 + 3 + 4, 3, 1, 1}},
		{Code: "defer 2; call 1; const 6; panic; " + Heading + "defer 2; const 5; panic" + Catches, Want: "out=1 out=5 out=1 out=6 exit=0", Numbers: Numbers{4 + 3 + 2*4, 3, 2, 1}},
		// Nearer and further.
		{Code: "call 1; ret; " + Heading + "defer 2; defer 3; const 1; panic" + Catches + "; " + Heading + "defer 2; const 2; panic", Want: "out=1 out=2 out=1 out=1 exit=0"},
		{Code: "defer 1; defer 2; const 1; panic; " + Heading + "call 3; ret" + Nothing + Catches, Want: "out=0 out=0 panic=1"},
		// A panic amid the end of a frame below which another panic waits.
		{Code: "defer 4; defer 1; const 5; panic; " + Heading + "defer 2; ret; " + Heading + "defer 3; const 6; panic" + Nothing + Catches, Want: "out=1 out=6 exit=0", Numbers: Numbers{4 + 2 + 3 + 1 + 4, 4, 2, 2}},
		{Code: "defer 4; defer 1; const 5; panic; " + Heading + "defer 3; defer 2; ret" + Panics6 + Quiet + Catches, Want: "out=1 out=5 exit=0", Numbers: Numbers{4 + 3 + 2 + 4 + 4, 3, 3, 2}},
		// The value is the one that was active last.
		{Code: "const 1; defer 1; const 2; defer 1; const 3; defer 1; ret; func 1 n 0 -; get 0; panic", Want: "panic=1", Numbers: Numbers{13, 2, 3, 2}},
	}
}

// Greatest: numbers of frames, waiting calls and panics that rise and fall again.
func Greatest() []Example {
	return []Example{
		{Code: "call 1; call 3; call 1; ret; " + Heading + "call 2; ret" + Nothing + Nothing, Want: "exit=0", Numbers: Numbers{11, 3, 0, 0}},
		{Code: "call 3; call 1; call 3; ret; " + Heading + "call 2; ret" + Nothing + Nothing, Want: "exit=0", Numbers: Numbers{9, 3, 0, 0}},
		// Waiting calls of all frames together, of which some are made already.
		{Code: "defer 3; call 1; call 2; ret; " + Heading + "defer 3; defer 3; ret; " + Heading + "defer 3; ret" + Nothing, Want: "exit=0", Numbers: Numbers{4 + 3 + 2 + 4, 3, 3, 0}},
		{Code: "defer 3; call 2; call 1; ret; " + Heading + "defer 3; defer 3; ret; " + Heading + "defer 3; ret" + Nothing, Want: "exit=0", Numbers: Numbers{13, 3, 3, 0}},
		{Code: "call 1; call 1; defer 2; ret; " + Heading + "defer 2; defer 2; ret" + Nothing, Want: "exit=0", Numbers: Numbers{15, 3, 2, 0}},
		{Code: "defer 1; defer 1; ret; " + Heading + "defer 2; ret" + Nothing, Want: "exit=0", Numbers: Numbers{9, 3, 2, 0}},
		{Code: "defer 1; defer 1; defer 1; ret; " + Heading + "defer 2; defer 2; ret" + Nothing, Want: "exit=0", Numbers: Numbers{4 + 9 + 6, 3, 4, 0}},
		// Panics that are recovered, one after the other, and one above the other.
		{Code: "call 1; call 1; call 1; ret; " + Heading + "defer 2; const 5; panic" + Quiet, Want: "exit=0", Numbers: Numbers{25, 3, 1, 1}},
		{Code: "call 1; call 3; call 1; ret; " + Heading + "defer 2; const 5; panic" + Quiet + "; " + Heading + "defer 4; const 5; panic; " + Heading + "call 1; recover; drop; drop; ret", Want: "exit=0", Numbers: Numbers{4 + 3*7 + 3 + 5, 5, 1, 2}},
		// A recovered panic is in the list as long as its frame has deferred calls to make.
		{Code: "defer 1; const 5; panic; " + Heading + "defer 2; recover; drop; drop; ret; " + Heading + "defer 3; const 6; panic" + Quiet, Want: "exit=0", Numbers: Numbers{15, 4, 1, 2}},
		// A panic that takes another's place has been beside it.
		{Code: "defer 1; defer 1; defer 1; defer 1; const 5; panic" + Panics6, Want: "panic=6", Numbers: Numbers{14, 2, 4, 2}},
	}
}

package side

import (
	"math"
	"slices"
	"testing"

	"avocet/api"
	"avocet/check"
)

// made is the table of a body that fits, of which it asks what the words tell.
func made(t *testing.T, results, text string) Table {
	t.Helper()
	b := laid(code(text))
	if e := held(t, gives(results), b, 0); e != api.OK {
		t.Fatalf("Make of %q = %d", text, e)
	}
	x, n, _ := Make(gives(results), b, 0)
	if n != len(b) {
		t.Fatalf("Make of %q is at %d of %d", text, n, len(b))
	}
	return x
}

// jumpsAre asks for a body's jumps; of each there are At, To, Height and Arity.
func jumpsAre(t *testing.T, results, text string, want ...Jump) {
	t.Helper()
	if x := made(t, results, text); !slices.Equal(x.Jumps, want) {
		t.Errorf("Jumps of %q = %v; want %v", text, x.Jumps, want)
	}
}

// The chapter's example.
func TestExample(t *testing.T) {
	x, n, e := Make(check.Env{}, []byte{3, 64, 12, 0, 11, 11}, 0)
	want := Table{Starts: []int{0, 2, 4, 5}, Jumps: []Jump{{At: 2, To: 0}}, Loops: []int{0}, Heights: []int{0, 0, 0, 0}}
	if !sameTable(x, want) || n != 6 || e != api.OK {
		t.Errorf("%v, %d, %d; want %v", x, n, e, want)
	}
}

// refused asks that bytes are, for a reason that body.Read or check.Body tells.
func refused(t *testing.T, e check.Env, b []byte, at int, why api.Errno) {
	t.Helper()
	x, n, f := Make(e, b, at)
	if x.Starts != nil || x.Jumps != nil || x.Loops != nil || x.Heights != nil || n != 0 || f != why {
		t.Errorf("Make of %v at %d = %v, %d, %d; want %d", b, at, x, n, f, why)
	}
}

// P12.1: what body.Read refuses, with its error, also where check.Body would have one too.
func TestWhatCantBeRead(t *testing.T) {
	for _, x := range []struct {
		b   []byte
		why api.Errno
	}{
		{nil, api.ErrShort}, {[]byte{65}, api.ErrShort}, {[]byte{1}, api.ErrShort}, {[]byte{3, 64, 12, 0, 11}, api.ErrShort}, {[]byte{12, 128}, api.ErrShort}, {[]byte{26}, api.ErrShort},
		{[]byte{6, 11}, api.ErrForm}, {[]byte{5, 11}, api.ErrForm}, {[]byte{2, 64, 5, 11, 11}, api.ErrForm}, {[]byte{2, 1, 11, 11}, api.ErrForm}, {[]byte{26, 255}, api.ErrForm}, {[]byte{63, 1, 11}, api.ErrForm},
		{[]byte{14, 65, 11}, api.ErrLimit}, {slices.Concat(slices.Repeat([]byte{1}, 4097), []byte{11}), api.ErrLimit}, {slices.Repeat([]byte{2, 64}, 34), api.ErrLimit}, {slices.Concat([]byte{26}, slices.Repeat([]byte{3, 64}, 40)), api.ErrLimit},
	} {
		for _, front := range []int{0, 1, 7} {
			b := slices.Concat(make([]byte, front), x.b)
			refused(t, gives(""), b, front, x.why)
			refused(t, check.Env{Results: vals("ii")}, b, front, x.why)
			held(t, gives("i"), b, front)
		}
	}
}

// P12.1: each place of bytes, places below 0 and behind the last byte.
func TestEachPlace(t *testing.T) {
	b := laid(code("i32:130 if:l i64:-9 else loop:l i64 local.get:0 br_if:0 end end drop block i32 br_table:0,1,0 end i32 i32.load:1 i32.eqz drop memory.size drop call_indirect:0 return"))
	fits := 0
	for at := range len(b) + 1 {
		for _, results := range []string{"", "i"} {
			if held(t, gives(results), b, at) == api.OK {
				fits++
			}
		}
	}
	if fits == 0 {
		t.Error("none of them fits")
	}
	for _, b := range [][]byte{b, {11}, {}, nil} {
		for _, at := range []int{-1, -2, len(b) + 1, len(b) + 2, math.MinInt, math.MaxInt, 1 << 32, -1 << 32} {
			refused(t, gives(""), b, at, api.ErrArg)
		}
		refused(t, gives(""), b, len(b), api.ErrShort)
	}
}

// P12.1: a body that does not fit, with check.Body's error.
func TestWhatDoesNotFit(t *testing.T) {
	for _, x := range []struct {
		results, text string
		why           api.Errno
	}{
		{"", "i32", api.ErrType}, {"i", "", api.ErrType}, {"i", "i64", api.ErrType}, {"i", "i32 i32", api.ErrType}, {"", "drop", api.ErrType}, {"", "if end", api.ErrType}, {"i", "i32 if:i i32 end", api.ErrType}, {"", "block:i end drop", api.ErrType}, {"i", "br:0", api.ErrType}, {"", "unreachable i32", api.ErrType},
		{"", "block i32 i32 br_table:0,1 br:2 end", api.ErrName}, {"i", "block i32 i32 br_table:0,1 end", api.ErrType},
		{"", "br:1", api.ErrName}, {"", "block br:2 end", api.ErrName}, {"", "i32 br_table:0,4294967295,0", api.ErrName}, {"", "i32 br_table:4294967295", api.ErrName}, {"", "call:4", api.ErrName}, {"", "local.get:2 drop", api.ErrName}, {"", "drop call:4", api.ErrType}, {"", "call:4 drop", api.ErrName}, {"", "br:0 br:1", api.ErrName},
	} {
		b := laid(code(x.text))
		refused(t, gives(x.results), b, 0, x.why)
		refused(t, gives(x.results), slices.Concat([]byte{9, 9}, b, []byte{9}), 2, x.why)
		held(t, gives(x.results), b, 0)
	}
	for _, e := range []check.Env{
		{Results: vals("ii")}, {Results: vals("5")}, {Results: []byte{0}}, {Locals: vals("i5")}, {Types: []api.FuncType{fn("5", "")}}, {Types: []api.FuncType{fn("", "il")}}, {Globals: []check.Glob{{Val: 64}}},
	} {
		refused(t, e, []byte{11}, 0, api.ErrArg)
		refused(t, e, []byte{0, 11}, 0, api.ErrArg)
		refused(t, e, []byte{26, 11}, 0, api.ErrArg)
		refused(t, e, []byte{26}, 0, api.ErrShort)
	}
}

// P12.1: the empty body is its end alone, wherever that lies.
func TestTheEmptyBody(t *testing.T) {
	for _, at := range []int{0, 1, 5} {
		for _, rest := range []int{0, 1, 3} {
			b := slices.Concat(make([]byte, at), []byte{11}, make([]byte, rest))
			x, n, e := Make(check.Env{}, b, at)
			if !sameTable(x, Table{Starts: []int{at}, Heights: []int{0}}) || n != at+1 || e != api.OK {
				t.Errorf("of %v at %d: %v, %d, %d", b, at, x, n, e)
			}
		}
	}
}

// placesAre asks for where a body's instructions and its end begin, and for how many values there are ahead of these.
func placesAre(t *testing.T, results, text, starts, heights string) {
	t.Helper()
	x := made(t, results, text)
	if !slices.Equal(x.Starts, numbers(starts)) || !slices.Equal(x.Heights, numbers(heights)) {
		t.Errorf("of %q: %v, %v; want %s, %s", text, x.Starts, x.Heights, starts, heights)
	}
}

// P12.1: where each instruction begins, and the end, and how many values there are.
func TestStartsAndHeights(t *testing.T) {
	placesAre(t, "", "nop", "0 1", "0 0")
	placesAre(t, "i", "i32", "0 2", "0 1")
	placesAre(t, "l", "i64 nop", "0 2 3", "0 1 1")
	placesAre(t, "i", "i32:63 i32:64 i32.add", "0 2 5 6", "0 1 2 1")
	placesAre(t, "l", "i64:8191 i64:8192 i64.add", "0 3 7 8", "0 1 2 1")
	placesAre(t, "", "i32 i64 call:0 drop", "0 2 4 6 7", "0 1 2 1 0")
	placesAre(t, "", "i64 i64 i32 i32 call_indirect:2", "0 2 4 6 8 11", "0 1 2 3 4 0")
	placesAre(t, "i", "i32 i32.load:2 memory.grow", "0 2 5 7", "0 1 1 1")
	placesAre(t, "i", "local.get:0 local.tee:0 local.get:1 local.set:1", "0 2 4 6 8", "0 1 1 2 1")
	placesAre(t, "i", "i32 i32 i32 select", "0 2 4 6 7", "0 1 2 3 1")
	placesAre(t, "i", "block:i i32 i64 drop end", "0 2 4 6 7 8", "0 0 1 2 1 1")
	placesAre(t, "", "i64 block i32 drop end drop", "0 2 4 6 7 8 9", "0 1 1 2 1 1 0")
	placesAre(t, "", "i64 i32 if:i i32 i64 drop else i32 end drop drop", "0 2 4 6 8 10 11 12 14 15 16 17", "0 1 2 1 2 3 2 1 2 2 1 0")
	placesAre(t, "", "i64 loop:i i32 i32 br_if:0 end drop drop", "0 2 4 6 8 10 11 12 13", "0 1 1 2 3 2 2 1 0")
	placesAre(t, "i", "i32 i32 br_table:0,0,0", "0 2 4 9", "0 1 2 0")
}

// P12.1: what is never come to begins somewhere too, and has as many values as Path has.
func TestHeightsOfWhatIsNeverComeTo(t *testing.T) {
	placesAre(t, "", "unreachable", "0 1", "0 0")
	placesAre(t, "i", "unreachable nop", "0 1 2", "0 0 0")
	placesAre(t, "i", "unreachable i32.add", "0 1 2", "0 0 1")
	placesAre(t, "i", "i32 br:0 i32.add", "0 2 4 5", "0 1 0 1")
	placesAre(t, "l", "i64 return drop drop i64", "0 2 3 4 5 7", "0 1 0 0 0 1")
	placesAre(t, "i", "i32 block i32 br:1 i64 i32 br_if:0 drop end", "0 2 4 6 8 10 12 14 15 16", "0 1 1 2 1 2 3 2 1 1")
	placesAre(t, "i", "i32 i64 block unreachable drop end drop", "0 2 4 6 7 8 9 10", "0 1 2 2 2 2 2 1")
	placesAre(t, "i", "unreachable if:i unreachable else i32 end", "0 1 3 4 5 7 8", "0 0 0 0 0 1 1")
	placesAre(t, "i", "i32 if:i unreachable else i32 end", "0 2 4 5 6 8 9", "0 1 0 0 0 1 1")
	placesAre(t, "", "return block:l unreachable end i64.eqz drop", "0 1 3 4 5 6 7", "0 0 0 0 1 1 0")
}

// P12.1: the bytes begin anywhere: all places are so much greater, and what lies ahead and behind is not seen.
func TestBytesThatDoNotBeginAt0(t *testing.T) {
	n := lot(77)
	for k := range 200 {
		e := gives([]string{"", "i", "l"}[k%3])
		b := laid(grown(&n, e, 3+k%40))
		first, behind, f := Make(e, b, 0)
		for _, at := range []int{1, 2, 130} {
			want := Table{Heights: first.Heights}
			for _, place := range first.Starts {
				want.Starts = append(want.Starts, place+at)
			}
			for _, place := range first.Loops {
				want.Loops = append(want.Loops, place+at)
			}
			for _, j := range first.Jumps {
				want.Jumps = append(want.Jumps, Jump{j.At + at, j.To + at, j.Height, j.Arity})
			}
			got, m, g := Make(e, slices.Concat(slices.Repeat([]byte{11}, at), b, []byte{11, 3}), at)
			if !sameTable(got, want) || m != behind+at || f != g {
				t.Fatalf("of %v at %d: %v, %d, %d; want %v", b, at, got, m, g, want)
			}
		}
	}
}

// P12.1: numbers that lie in more bytes than they need are read, and what follows begins behind these.
func TestNumbersInLongerForms(t *testing.T) {
	b := []byte{2, 64, 65, 129, 128, 0, 14, 130, 0, 128, 0, 0, 129, 128, 128, 0, 3, 64, 12, 129, 0, 11, 11, 1, 11}
	x, n, e := Make(check.Env{}, b, 0)
	want := Table{
		Starts: []int{0, 2, 6, 16, 18, 21, 22, 23, 24}, Heights: []int{0, 0, 1, 0, 0, 0, 0, 0, 0}, Loops: []int{16},
		Jumps: []Jump{{6, 23, 0, 0}, {6, 23, 0, 0}, {6, 24, 0, 0}, {18, 23, 0, 0}},
	}
	if !sameTable(x, want) || n != len(b) || e != api.OK {
		t.Errorf("%v, %d, %d; want %v", x, n, e, want)
	}
	held(t, check.Env{}, b, 0)
	refused(t, check.Env{}, slices.Concat(b[2:21], []byte{11, 11}), 0, api.ErrName)
}

// P12.1: where loops begin.
func TestLoops(t *testing.T) {
	for _, x := range []struct{ text, loops string }{
		{"", ""}, {"nop", ""}, {"block end", ""}, {"i32:3 drop", ""}, {"block br:0 end", ""},
		{"loop end", "0"}, {"nop loop end", "1"}, {"loop br:0 end", "0"}, {"loop loop end end", "0 2"}, {"loop end loop end", "0 3"}, {"loop nop loop loop end end end loop end", "0 3 5 10"},
		{"block loop end end", "2"}, {"loop block loop end end end", "0 4"}, {"i32 if loop end else loop end end", "4 8"}, {"unreachable loop end", "1"}, {"br:0 loop br:0 loop end end", "2 6"}, {"loop:i i32 end drop", "0"}, {"return loop:l loop:l i64 end end drop", "1 3"},
	} {
		if got := made(t, "", x.text); !slices.Equal(got.Loops, numbers(x.loops)) {
			t.Errorf("Loops of %q = %v; want %s", x.text, got.Loops, x.loops)
		}
	}
}

// P12.1: which instructions have jumps, and how many.
func TestWhichHaveJumps(t *testing.T) {
	for _, text := range []string{"", "nop", "unreachable", "return", "block end", "loop end", "block loop nop end end", "call:2 drop", "i32 drop"} {
		jumpsAre(t, "", text)
	}
	jumpsAre(t, "", "br:0", Jump{0, 2, 0, 0})
	jumpsAre(t, "", "i32 br_if:0", Jump{2, 4, 0, 0})
	jumpsAre(t, "", "i32 br_table:0", Jump{2, 5, 0, 0})
	jumpsAre(t, "", "i32 if end", Jump{2, 5, 0, 0})
	jumpsAre(t, "", "i32 if else end", Jump{2, 5, 0, 0}, Jump{4, 6, 0, 0})
	jumpsAre(t, "", "i32 if nop else nop nop end nop", Jump{2, 6, 0, 0}, Jump{5, 9, 0, 0})
	jumpsAre(t, "", "i32 br_if:0 i32 br_if:0 br:0", Jump{2, 10, 0, 0}, Jump{6, 10, 0, 0}, Jump{8, 10, 0, 0})
	jumpsAre(t, "", "i32 if i32 if end else i32 if else end end", Jump{2, 10, 0, 0}, Jump{6, 9, 0, 0}, Jump{9, 17, 0, 0}, Jump{12, 15, 0, 0}, Jump{14, 16, 0, 0})
}

// P12.1: br_table has as many jumps as labels, in their order, and A's behind them.
func TestJumpsOfBrTable(t *testing.T) {
	jumpsAre(t, "", "i32 br_table:0,0", Jump{2, 6, 0, 0}, Jump{2, 6, 0, 0})
	jumpsAre(t, "", "block loop block i32 br_table:2,0,1,3,0,1 end end end", Jump{8, 19, 0, 0}, Jump{8, 17, 0, 0}, Jump{8, 2, 0, 0}, Jump{8, 19, 0, 0}, Jump{8, 17, 0, 0}, Jump{8, 2, 0, 0})
	jumpsAre(t, "", "block loop block i32 br_table:3,2,1,0 end end end", Jump{8, 17, 0, 0}, Jump{8, 17, 0, 0}, Jump{8, 2, 0, 0}, Jump{8, 15, 0, 0})
	jumpsAre(t, "", "block loop block i32 br_table:1 end end end", Jump{8, 2, 0, 0})
	jumpsAre(t, "i", "block:i i32 i32 br_table:1,0,1 end nop", Jump{6, 13, 0, 1}, Jump{6, 12, 0, 1}, Jump{6, 13, 0, 1})
}

// P12.1: the most labels that there may be, each to its own.
func TestJumpsOfManyLabels(t *testing.T) {
	var l []api.Instr
	for range 32 {
		l = append(l, api.Instr{Op: 2})
	}
	table := api.Instr{Op: 14, A: 32}
	for k := range 64 {
		table.Labels = append(table.Labels, (k*7)%33)
	}
	l = append(l, api.Instr{Op: 65}, table)
	l = append(l, slices.Repeat(code("end"), 32)...)
	b := laid(l)
	x, _, e := Make(check.Env{}, b, 0)
	if e != api.OK || len(x.Jumps) != 65 {
		t.Fatalf("%d jumps, %d", len(x.Jumps), e)
	}
	ends := 66 + 67 // behind 32 blocks, a constant, the code, how many, and 65 labels of one byte each
	for k, j := range x.Jumps {
		label := append(table.Labels, 32)[k]
		if want := (Jump{At: 66, To: min(ends+label+1, len(b)-1)}); j != want {
			t.Errorf("the jump %d, of label %d, is %v; want %v", k, label, j, want)
		}
	}
	held(t, check.Env{}, b, 0)
}

// P12.1: To of a branch to a loop, to a block, to an if from both its parts, and to all of the body.
func TestWhereBranchesGo(t *testing.T) {
	jumpsAre(t, "", "nop loop br:0 end nop", Jump{3, 1, 0, 0})
	jumpsAre(t, "", "nop loop nop br:1 end nop", Jump{4, 8, 0, 0})
	jumpsAre(t, "", "nop block br:0 nop end nop nop", Jump{3, 7, 0, 0})
	jumpsAre(t, "", "block br:1 end nop", Jump{2, 6, 0, 0})
	jumpsAre(t, "", "i32 if br:0 nop end nop", Jump{2, 8, 0, 0}, Jump{4, 8, 0, 0})
	jumpsAre(t, "", "i32 if br:0 else nop end nop", Jump{2, 7, 0, 0}, Jump{4, 9, 0, 0}, Jump{6, 9, 0, 0})
	jumpsAre(t, "", "i32 if nop else br:0 nop end nop", Jump{2, 6, 0, 0}, Jump{5, 10, 0, 0}, Jump{6, 10, 0, 0})
	jumpsAre(t, "", "i32 if br:1 else br:1 end nop", Jump{2, 7, 0, 0}, Jump{4, 11, 0, 0}, Jump{6, 10, 0, 0}, Jump{7, 11, 0, 0})
	jumpsAre(t, "", "loop i32 if br:1 else br:0 end end", Jump{4, 9, 0, 0}, Jump{6, 0, 0, 0}, Jump{8, 12, 0, 0}, Jump{9, 12, 0, 0})
	jumpsAre(t, "", "loop loop br:0 br:1 br:2 end end", Jump{4, 2, 0, 0}, Jump{6, 0, 0, 0}, Jump{8, 12, 0, 0})
	jumpsAre(t, "", "block block br:0 br:1 br:2 end nop end nop", Jump{4, 11, 0, 0}, Jump{6, 13, 0, 0}, Jump{8, 14, 0, 0})
	jumpsAre(t, "", "block end block br:0 end loop end loop br:0 br:1 end", Jump{5, 8, 0, 0}, Jump{13, 11, 0, 0}, Jump{15, 18, 0, 0})
}

// P12.1: Height and Arity: of branches out of what leaves something and what doesn't, with values below and without.
func TestHeightAndArity(t *testing.T) {
	jumpsAre(t, "i", "i32 br:0", Jump{2, 4, 0, 1})
	jumpsAre(t, "i", "i64 i64 i32 br:0", Jump{6, 8, 0, 1})
	jumpsAre(t, "", "i64 i64 i32 br:0", Jump{6, 8, 0, 0})
	jumpsAre(t, "i", "i32 i32 br_if:0", Jump{4, 6, 0, 1})
	jumpsAre(t, "i", "i32 i32 br_table:0,0", Jump{4, 8, 0, 1}, Jump{4, 8, 0, 1})
	jumpsAre(t, "l", "i64 block br:0 end", Jump{4, 7, 1, 0})
	jumpsAre(t, "l", "i64 block i32 i32 br:0 end", Jump{8, 11, 1, 0})
	jumpsAre(t, "l", "block:l i64 br:0 end", Jump{4, 7, 0, 1})
	jumpsAre(t, "l", "i32 i32 block:l i32 i64 br:0 end return", Jump{10, 13, 2, 1})
	jumpsAre(t, "l", "i32 i32 block:i i32 i64 br:1 end drop drop drop i64", Jump{10, 18, 0, 1})
	jumpsAre(t, "", "i32 block:i i64 block:l i64 i32 br_if:0 drop i32 br:1 end drop drop i32 end drop drop", Jump{12, 20, 2, 1}, Jump{17, 25, 1, 1})
	jumpsAre(t, "", "i64 loop br:0 end drop", Jump{4, 2, 1, 0})
	jumpsAre(t, "i", "i64 loop:i i64 i32 br_if:0 drop i32 end br:0", Jump{8, 2, 1, 0}, Jump{14, 16, 0, 1})
	jumpsAre(t, "i", "i64 i64 loop:i i32 br:0 end br:0", Jump{8, 4, 2, 0}, Jump{11, 13, 0, 1})
	jumpsAre(t, "i", "loop:i i64 block:i i32 i32 br_table:0,2 end br:1 end", Jump{10, 15, 1, 1}, Jump{10, 18, 0, 1}, Jump{15, 18, 0, 1})
	jumpsAre(t, "i", "i64 i32 if:i i32 br:0 else i32 br:0 end br:0", Jump{4, 11, 1, 0}, Jump{8, 16, 1, 1}, Jump{10, 16, 2, 0}, Jump{13, 16, 1, 1}, Jump{16, 18, 0, 1})
}

// P12.1: Height and Arity of an if's own jump, and of an else's.
func TestHeightOfIfAndElse(t *testing.T) {
	jumpsAre(t, "", "i32 if end", Jump{2, 5, 0, 0})
	jumpsAre(t, "i", "i32 i32 if end", Jump{4, 7, 1, 0})
	jumpsAre(t, "i", "i32 i32 if else end", Jump{4, 7, 1, 0}, Jump{6, 8, 1, 0})
	jumpsAre(t, "i", "i32 if:i i32 else i32 end", Jump{2, 7, 0, 0}, Jump{6, 10, 1, 0})
	jumpsAre(t, "i", "i64 i32 if:i i32 else i32 end return", Jump{4, 9, 1, 0}, Jump{8, 12, 2, 0})
	jumpsAre(t, "i", "i32 if:i i64 i32 if:i i32 else i32 end return else i32 end", Jump{2, 18, 0, 0}, Jump{8, 13, 1, 0}, Jump{12, 16, 2, 0}, Jump{17, 21, 1, 0})
	jumpsAre(t, "i", "i32 if:i i64 drop i32 else i64 i32 if end drop i32 end", Jump{2, 10, 0, 0}, Jump{9, 21, 1, 0}, Jump{14, 17, 1, 0})
}

// P12.1: what is never come to has its jumps as all else has: their Height is of what is opened, of no more values than are counted, and an else's as if its if had left something.
func TestJumpsOfWhatIsNeverComeTo(t *testing.T) {
	jumpsAre(t, "i", "unreachable br:0", Jump{1, 3, 0, 1})
	jumpsAre(t, "i", "unreachable br_if:0", Jump{1, 3, 0, 1})
	jumpsAre(t, "i", "unreachable br_table:0,0", Jump{1, 5, 0, 1}, Jump{1, 5, 0, 1})
	jumpsAre(t, "l", "i64 block unreachable br:0 br:1 end", Jump{5, 10, 1, 0}, Jump{7, 10, 0, 1})
	jumpsAre(t, "i", "unreachable if:i unreachable else unreachable end", Jump{1, 5, 0, 0}, Jump{4, 7, 1, 0})
	jumpsAre(t, "i", "i32 if:i unreachable else i32 end", Jump{2, 6, 0, 0}, Jump{5, 9, 1, 0})
	jumpsAre(t, "", "br:0 loop br:0 end br:0", Jump{0, 9, 0, 0}, Jump{4, 2, 0, 0}, Jump{7, 9, 0, 0})
	jumpsAre(t, "l", "unreachable i64 block:i i64 i32 if:i i32 br:1 else unreachable end br:0 end drop", Jump{9, 16, 2, 0}, Jump{13, 21, 1, 1}, Jump{15, 18, 3, 0}, Jump{18, 21, 1, 1})
}

// P12.1: bodies as great and as deep as there may be.
func TestTheGreatestBodies(t *testing.T) {
	table := api.Instr{Op: 14, Labels: make([]int, 64)}
	for name, l := range map[string][]api.Instr{
		"branches of many labels": slices.Concat(code("unreachable"), slices.Repeat([]api.Instr{table}, 4095)),
		"branches deep inside":    slices.Concat(slices.Repeat(code("block"), 32), code("i32"), slices.Repeat([]api.Instr{table}, 4031), slices.Repeat(code("end"), 32)),
		"values":                  slices.Concat(slices.Repeat(code("i64"), 4095), code("unreachable")),
		"ifs":                     slices.Repeat(code("i32 if else end"), 1024),
		"loops":                   slices.Repeat(code("loop i32 br_if:0 end"), 1024),
	} {
		b := laid(l)
		x, n, e := Make(check.Env{}, b, 0)
		if e != api.OK || n != len(b) || len(x.Starts) != len(l)+1 || len(x.Heights) != len(l)+1 {
			t.Errorf("%s: %d places of %d, %d", name, len(x.Starts), len(l)+1, e)
		}
		follows(t, check.Env{}, b, 0, x)
	}
}

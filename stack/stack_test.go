package stack

import (
	"bytes"
	"math"
	"slices"
	"testing"

	"avocet/api"
)

// codes are ones of instructions, and numbers that are none.
func codes() []int {
	l := []int{math.MinInt, math.MinInt + 3, math.MaxInt, 1 << 32, 1<<32 + 3, 256 + 3, -3, -253}
	for op := -2; op < 260; op++ {
		l = append(l, op)
	}
	return l
}

// block is one with an End and a Height.
func block(height int, end ...byte) Ctrl { return Ctrl{Op: 2, End: end, Height: height} }

// dead is what is open, but Dead.
func dead(c Ctrl) Ctrl {
	c.Dead = true
	return c
}

// on is a stack of values, and what is open.
func on(vals []byte, open ...Ctrl) Stack { return Stack{vals, open} }

// isNone tells whether an error came with nothing else.
func isNone(s Stack) bool { return len(s.Vals) == 0 && len(s.Ctrls) == 0 }

// P9.1 to P9.4: a stack of nothing.
func TestStackOfNothing(t *testing.T) {
	for _, s := range []Stack{{}, {[]byte{}, []Ctrl{}}, {nil, []Ctrl{}}} {
		held(t, s)
		if !Sane(s) {
			t.Errorf("Sane(%v) = false", s)
		}
		if got, e := Push(s); !isNone(got) || e != api.OK {
			t.Errorf("Push of nothing = %v, %d", got, e)
		}
		if got, e := Want(s); !isNone(got) || e != api.OK {
			t.Errorf("Want of nothing = %v, %d", got, e)
		}
		if got, v, e := Pop(s); !isNone(got) || v != 0 || e != api.ErrType {
			t.Errorf("Pop = %v, %d, %d", got, v, e)
		}
		if got, c, e := Close(s); !isNone(got) || !sameCtrl(c, Ctrl{}) || e != api.ErrType {
			t.Errorf("Close = %v, %v, %d", got, c, e)
		}
		if got, e := Kill(s); !isNone(got) || e != api.ErrType {
			t.Errorf("Kill = %v, %d", got, e)
		}
		if l, e := Label(s, 0); len(l) != 0 || e != api.ErrName {
			t.Errorf("Label 0 = %v, %d", l, e)
		}
	}
}

// P9.1, P9.2: every byte among Vals, and among what is pushed, behind types that may be.
func TestEveryByteAsType(t *testing.T) {
	for c := range 256 {
		may := c == 0 || c == 126 || c == 127
		for _, s := range []Stack{on([]byte{byte(c)}), on([]byte{127, byte(c)}), on([]byte{byte(c), 0, 126}), on([]byte{127, byte(c)}, block(1, 126))} {
			held(t, s)
			if Sane(s) != may {
				t.Errorf("Sane(%v) = %v", s, !may)
			}
		}
		for _, l := range [][]byte{{byte(c)}, {127, byte(c)}, {0, 126, byte(c)}, {byte(c), 126}} {
			got, e := Push(on([]byte{126}), l...)
			if may && (!bytes.Equal(got.Vals, append([]byte{126}, l...)) || e != api.OK) || !may && (!isNone(got) || e != api.ErrArg) {
				t.Errorf("Push of %v = %v, %d", l, got, e)
			}
		}
	}
}

// P9.1, P9.3: every byte as an End, alone and with another one.
func TestEveryByteAsEnd(t *testing.T) {
	s := on([]byte{127, 126}, block(1))
	for c := range 256 {
		for _, end := range [][]byte{{byte(c)}, {byte(c), 127}, {126, byte(c)}, {byte(c), byte(c), byte(c)}} {
			may := len(end) == 1 && (c == 126 || c == 127)
			for _, x := range []Stack{on(nil, block(0, end...)), on(nil, block(0, end...), block(0)), on(nil, block(0), block(0, end...)), on(nil, dead(block(0, end...)))} {
				held(t, x)
				if Sane(x) != may {
					t.Errorf("Sane(%v) = %v", x, !may)
				}
			}
			got, e := Open(s, 2, end)
			if may && (!equal(got, on([]byte{127, 126}, block(1), block(2, end...))) || e != api.OK) || !may && (!isNone(got) || e != api.ErrArg) {
				t.Errorf("Open with %v = %v, %d", end, got, e)
			}
		}
	}
	for _, end := range [][]byte{nil, {}} {
		if got, e := Open(s, 4, end); !equal(got, on([]byte{127, 126}, block(1), Ctrl{Op: 4, Height: 2})) || e != api.OK {
			t.Errorf("Open with nothing = %v, %d", got, e)
		}
	}
}

// P9.1: Heights don't fall, are none below 0, and the last one is at most how many Vals there are.
func TestHeights(t *testing.T) {
	for _, x := range []struct {
		heights []int
		sane    bool
	}{
		{nil, true}, {[]int{0}, true}, {[]int{3}, true}, {[]int{4}, false}, {[]int{-1}, false}, {[]int{math.MinInt}, false}, {[]int{math.MaxInt}, false},
		{[]int{0, 0, 0}, true}, {[]int{0, 1, 2, 3, 3}, true}, {[]int{3, 3, 3}, true}, {[]int{2, 1}, false}, {[]int{0, 3, 2}, false}, {[]int{1, 0}, false}, {[]int{1, 1, 0, 2}, false},
		{[]int{-1, 0}, false}, {[]int{0, -1}, false}, {[]int{-2, -1}, false}, {[]int{math.MinInt, 3}, false}, {[]int{math.MaxInt, 3}, false}, {[]int{3, 4}, false}, {[]int{4, 3}, false}, {[]int{0, math.MaxInt}, false}, {[]int{1 << 32}, false}, {[]int{-1 << 32}, false},
	} {
		var open []Ctrl
		for _, h := range x.heights {
			open = append(open, block(h))
		}
		s := on([]byte{127, 0, 126}, open...)
		held(t, s)
		if Sane(s) != x.sane {
			t.Errorf("Sane of the Heights %v = %v", x.heights, !x.sane)
		}
		for k := range open {
			open[k].Dead, open[k].Op = true, math.MinInt
		}
		if held(t, s); Sane(s) != x.sane {
			t.Errorf("Sane of the Heights %v, Dead, = %v", x.heights, !x.sane)
		}
	}
	if Sane(on(nil, block(1))) || !Sane(on(nil, block(0), block(0))) {
		t.Error("Sane of no Vals")
	}
}

// P9.2 to P9.4: a stack that is not Sane is ErrArg, whatever else would be wrong or right.
func TestNotSaneIsFirst(t *testing.T) {
	for _, s := range []Stack{
		on([]byte{1}), on([]byte{127, 255}), on([]byte{125}, block(0)), on([]byte{127, 128}, block(1, 127)), on([]byte{64, 127}, block(1, 127)), on(nil, block(1)), on(nil, block(-1)), on(nil, dead(block(-1))),
		on([]byte{127, 127}, block(2), block(1)), on(nil, block(0, 0)), on(nil, block(0, 127, 127)), on([]byte{127}, block(0, 1), block(0, 127)), on([]byte{127}, block(0, 1), Ctrl{Op: 3}),
	} {
		if Sane(s) {
			t.Errorf("Sane(%v) = true", s)
		}
		for _, l := range lists() {
			if got, e := Push(s, l...); !isNone(got) || e != api.ErrArg {
				t.Errorf("Push(%v, %v) = %v, %d", s, l, got, e)
			}
			if got, e := Want(s, l...); !isNone(got) || e != api.ErrArg {
				t.Errorf("Want(%v, %v) = %v, %d", s, l, got, e)
			}
			if got, e := Open(s, 2, l); !isNone(got) || e != api.ErrArg {
				t.Errorf("Open(%v, 2, %v) = %v, %d", s, l, got, e)
			}
		}
		if got, v, e := Pop(s); !isNone(got) || v != 0 || e != api.ErrArg {
			t.Errorf("Pop(%v) = %v, %d, %d", s, got, v, e)
		}
		if got, c, e := Close(s); !isNone(got) || !sameCtrl(c, Ctrl{}) || e != api.ErrArg {
			t.Errorf("Close(%v) = %v, %v, %d", s, got, c, e)
		}
		if got, e := Kill(s); !isNone(got) || e != api.ErrArg {
			t.Errorf("Kill(%v) = %v, %d", s, got, e)
		}
		for _, n := range numbers(len(s.Ctrls)) {
			if l, e := Label(s, n); len(l) != 0 || e != api.ErrArg {
				t.Errorf("Label(%v, %d) = %v, %d", s, n, l, e)
			}
		}
	}
}

// P9.2: Push of none, of one and of several, in order; what is open stays, also where it is Dead.
func TestPush(t *testing.T) {
	for _, l := range [][]byte{nil, {}, {0}, {126}, {127}, {127, 126}, {126, 127, 0, 0, 126}, bytes.Repeat([]byte{127, 126, 0}, 5000)} {
		for _, s := range []Stack{{}, on([]byte{126}), on([]byte{126, 0}, block(1, 127), dead(block(2)))} {
			got, e := Push(s, l...)
			if want := on(slices.Concat(s.Vals, l), s.Ctrls...); !equal(got, want) || e != api.OK {
				t.Errorf("Push(%v, %d types) = %v, %d", s, len(l), got, e)
			}
		}
	}
}

// P9.2: Pop where nothing is open, where there is none above Height, Dead or not, and else.
func TestPop(t *testing.T) {
	for _, x := range []struct {
		s    Stack
		left Stack
		v    byte
		e    api.Errno
	}{
		{on([]byte{127}), Stack{}, 0, api.ErrType},
		{on(nil, block(0)), Stack{}, 0, api.ErrType},
		{on([]byte{127, 126}, block(0), block(2, 127)), Stack{}, 0, api.ErrType},
		{on([]byte{127}, dead(block(0)), block(1)), Stack{}, 0, api.ErrType},
		{on(nil, dead(block(0))), on(nil, dead(block(0))), 0, api.OK},
		{on([]byte{127}, block(0, 126), dead(block(1, 127))), on([]byte{127}, block(0, 126), dead(block(1, 127))), 0, api.OK},
		{on([]byte{127}, block(0)), on(nil, block(0)), 127, api.OK},
		{on([]byte{127, 126}, block(0)), on([]byte{127}, block(0)), 126, api.OK},
		{on([]byte{127, 0}, block(1)), on([]byte{127}, block(1)), 0, api.OK},
		{on([]byte{126}, dead(block(0))), on(nil, dead(block(0))), 126, api.OK},
		{on([]byte{126, 127, 126}, dead(block(0)), dead(block(1))), on([]byte{126, 127}, dead(block(0)), dead(block(1))), 126, api.OK},
	} {
		if left, v, e := Pop(x.s); !equal(left, x.left) || v != x.v || e != x.e {
			t.Errorf("Pop(%v) = %v, %d, %d; want %v, %d, %d", x.s, left, v, e, x.left, x.v, x.e)
		}
	}
}

// P9.2: Want of what is there and of what is not. (What is no type is asked for as any other: only what was popped as 0 is as good.)
func TestWant(t *testing.T) {
	live := func(vals ...byte) Stack { return on(append([]byte{127}, vals...), block(1)) }
	dying := func(vals ...byte) Stack { return on(append([]byte{127}, vals...), dead(block(1))) }
	for _, x := range []struct {
		s    Stack
		l    []byte
		left Stack
		e    api.Errno
	}{
		{live(), nil, live(), api.OK}, {dying(), nil, dying(), api.OK}, {on([]byte{126}), nil, on([]byte{126}), api.OK}, {live(126), []byte{}, live(126), api.OK},
		{live(126), []byte{126}, live(), api.OK}, {live(127), []byte{127}, live(), api.OK}, {live(0), []byte{0}, live(), api.OK}, {live(127, 126), []byte{126}, live(127), api.OK},
		{live(127, 126), []byte{127, 126}, live(), api.OK}, {live(0, 127, 126), []byte{0, 127, 126}, live(), api.OK},
		{live(126), []byte{127}, Stack{}, api.ErrType}, {live(127), []byte{126}, Stack{}, api.ErrType}, {live(127, 126), []byte{126, 127}, Stack{}, api.ErrType}, {live(126, 126), []byte{127, 126}, Stack{}, api.ErrType}, {live(126, 126), []byte{126, 127}, Stack{}, api.ErrType},
		{live(0), []byte{127}, live(), api.OK}, {live(0), []byte{126}, live(), api.OK}, {live(127), []byte{0}, live(), api.OK}, {live(126), []byte{0}, live(), api.OK}, {live(0, 126), []byte{127, 0}, live(), api.OK},
		{live(), []byte{127}, Stack{}, api.ErrType}, {live(), []byte{0}, Stack{}, api.ErrType}, {live(126), []byte{126, 126}, Stack{}, api.ErrType}, {live(126), []byte{127, 126}, Stack{}, api.ErrType}, {on([]byte{127}), []byte{127}, Stack{}, api.ErrType}, {on([]byte{127}), []byte{0}, Stack{}, api.ErrType},
		{dying(), []byte{127}, dying(), api.OK}, {dying(), []byte{126, 0, 127}, dying(), api.OK}, {dying(126), []byte{127, 126}, dying(), api.OK}, {dying(126), []byte{126, 127}, Stack{}, api.ErrType}, {dying(127), []byte{126, 0}, dying(), api.OK},
		{live(127), []byte{5}, Stack{}, api.ErrType}, {live(127), []byte{5, 127}, Stack{}, api.ErrType}, {live(126, 127), []byte{255, 127}, Stack{}, api.ErrType}, {live(127), []byte{255}, Stack{}, api.ErrType}, {dying(126), []byte{125}, Stack{}, api.ErrType}, {live(), []byte{5}, Stack{}, api.ErrType}, {on(nil), []byte{5}, Stack{}, api.ErrType},
		{live(0), []byte{5}, live(), api.OK}, {dying(), []byte{5}, dying(), api.OK}, {dying(127), []byte{1, 255, 127}, dying(), api.OK},
	} {
		if left, e := Want(x.s, x.l...); !equal(left, x.left) || e != x.e {
			t.Errorf("Want(%v, %v) = %v, %d; want %v, %d", x.s, x.l, left, e, x.left, x.e)
		}
	}
}

// P9.3: Open of each code, at each Height: one more is open, not Dead, and all else is as it was.
func TestOpen(t *testing.T) {
	for _, s := range []Stack{{}, on([]byte{127}), on([]byte{127, 0, 126}, block(1, 126), dead(block(3)))} {
		for _, op := range codes() {
			for _, end := range [][]byte{nil, {126}, {127}} {
				got, e := Open(s, op, end)
				if want := on(s.Vals, append(slices.Clone(s.Ctrls), Ctrl{op, end, len(s.Vals), false})...); !equal(got, want) || e != api.OK {
					t.Errorf("Open(%v, %d, %v) = %v, %d; want %v", s, op, end, got, e, want)
				}
			}
		}
	}
}

// P9.3: Close: nothing open, End not there, of another type, more left than there was, Dead; and what is right.
func TestClose(t *testing.T) {
	out := block(0, 126)
	for _, x := range []struct {
		s    Stack
		left Stack
		c    Ctrl
		e    api.Errno
	}{
		{on([]byte{127}), Stack{}, Ctrl{}, api.ErrType},
		{on(nil, block(0, 127)), Stack{}, Ctrl{}, api.ErrType},
		{on([]byte{127}, out, block(1, 127)), Stack{}, Ctrl{}, api.ErrType},
		{on([]byte{126}, block(0, 127)), Stack{}, Ctrl{}, api.ErrType},
		{on([]byte{127, 126}, out, block(1, 127)), Stack{}, Ctrl{}, api.ErrType},
		{on([]byte{127}, block(0)), Stack{}, Ctrl{}, api.ErrType},
		{on([]byte{0}, block(0)), Stack{}, Ctrl{}, api.ErrType},
		{on([]byte{127, 127}, block(0, 127)), Stack{}, Ctrl{}, api.ErrType},
		{on([]byte{127}, dead(block(0))), Stack{}, Ctrl{}, api.ErrType},
		{on([]byte{126, 127}, dead(block(0, 127))), Stack{}, Ctrl{}, api.ErrType},
		{on([]byte{126}, dead(block(0, 127))), Stack{}, Ctrl{}, api.ErrType},
		{on(nil, block(0)), Stack{}, block(0), api.OK},
		{on([]byte{127}, block(0, 127)), Stack{}, block(0, 127), api.OK},
		{on([]byte{0}, block(0, 126)), Stack{}, block(0, 126), api.OK},
		{on([]byte{127, 0, 126}, out, block(2, 126)), on([]byte{127, 0}, out), block(2, 126), api.OK},
		{on([]byte{127, 0}, out, block(1), block(2)), on([]byte{127, 0}, out, block(1)), block(2), api.OK},
		{on([]byte{127}, out, dead(block(1))), on([]byte{127}, out), dead(block(1)), api.OK},
		{on([]byte{127}, out, dead(block(1, 126))), on([]byte{127}, out), dead(block(1, 126)), api.OK},
		{on([]byte{127, 126}, dead(out), dead(block(1, 126))), on([]byte{127}, dead(out)), dead(block(1, 126)), api.OK},
	} {
		for _, op := range []int{2, 3, 4, 5, 16, 0, -1, math.MaxInt} {
			if n := len(x.s.Ctrls); n > 0 {
				x.s.Ctrls[n-1].Op = op
			}
			if x.e == api.OK {
				x.c.Op = op
			}
			if left, c, e := Close(x.s); !equal(left, x.left) || !sameCtrl(c, x.c) || e != x.e {
				t.Errorf("Close(%v) = %v, %v, %d; want %v, %v, %d", x.s, left, c, e, x.left, x.c, x.e)
			}
		}
	}
}

// P9.3: Kill where nothing is open, once and again: just the innermost one is Dead, and just what stood in it is gone.
func TestKill(t *testing.T) {
	for _, vals := range [][]byte{nil, {127}, {0, 126}} {
		if got, e := Kill(on(vals)); !isNone(got) || e != api.ErrType {
			t.Errorf("Kill(%v) = %v, %d", vals, got, e)
		}
	}
	for _, x := range []struct{ s, want Stack }{
		{on(nil, block(0)), on(nil, dead(block(0)))},
		{on([]byte{127, 126}, block(0, 127)), on(nil, dead(block(0, 127)))},
		{on([]byte{127, 126, 0}, block(0), block(1, 127)), on([]byte{127}, block(0), dead(block(1, 127)))},
		{on([]byte{127, 126}, block(0), block(2)), on([]byte{127, 126}, block(0), dead(block(2)))},
		{on([]byte{127, 126}, dead(block(1)), dead(block(1))), on([]byte{127}, dead(block(1)), dead(block(1)))},
	} {
		once, e := Kill(x.s)
		if !equal(once, x.want) || e != api.OK {
			t.Errorf("Kill(%v) = %v, %d; want %v", x.s, once, e, x.want)
		}
		if again, e := Kill(once); !equal(again, x.want) || e != api.OK {
			t.Errorf("Kill(%v) = %v, %d; want it as it is", once, again, e)
		}
		more, _ := Push(once, 126, 0)
		if again, e := Kill(more); !equal(again, x.want) || e != api.OK {
			t.Errorf("Kill(%v) = %v, %d; want %v", more, again, e, x.want)
		}
	}
}

// P9.4: Label of the innermost, the outermost, one more, and of numbers that are far off.
func TestLabel(t *testing.T) {
	s := on([]byte{127}, block(0, 127), Ctrl{Op: 4, End: []byte{126}}, Ctrl{Op: 3, End: []byte{126}, Height: 1}, Ctrl{Op: 5, Height: 1}, dead(Ctrl{Op: 3, Height: 1}), dead(block(1, 126)))
	for n, want := range [][]byte{{126}, nil, nil, nil, {126}, {127}} {
		if l, e := Label(s, n); !bytes.Equal(l, want) || e != api.OK {
			t.Errorf("Label %d = %v, %d; want %v", n, l, e, want)
		}
	}
	for _, n := range []int{6, 7, 8, -1, -2, -5, -6, -7, 1 << 32, -1 << 32, 1<<32 + 1, math.MaxInt, math.MaxInt - 1, math.MinInt, math.MinInt + 1, math.MinInt + 5} {
		if l, e := Label(s, n); len(l) != 0 || e != api.ErrName {
			t.Errorf("Label %d = %v, %d", n, l, e)
		}
	}
}

// P9.4: of each code but a loop's, a branch takes End.
func TestLabelOfEachCode(t *testing.T) {
	for _, op := range codes() {
		for _, end := range [][]byte{nil, {126}, {127}} {
			want := end
			if op == 3 {
				want = nil
			}
			for n, s := range []Stack{on(nil, block(0, 127), Ctrl{Op: op, End: end}), on(nil, Ctrl{Op: op, End: end}, block(0, 127))} {
				if l, e := Label(s, n); !bytes.Equal(l, want) || e != api.OK {
					t.Errorf("Label(%v, %d) = %v, %d; want %v", s, n, l, e, want)
				}
			}
		}
	}
}

// The chapter's example: Open of a block, Kill, Want of an I32.
func TestExample(t *testing.T) {
	s, e := Open(Stack{}, 2, nil)
	if !equal(s, on(nil, block(0))) || e != api.OK {
		t.Fatal(s, e)
	}
	s, e = Kill(s)
	if !equal(s, on(nil, dead(block(0)))) || e != api.OK {
		t.Fatal(s, e)
	}
	if s, e = Want(s, api.I32); !equal(s, on(nil, dead(block(0)))) || e != api.OK {
		t.Error(s, e)
	}
}

// P9.5: what is pushed is popped, the last one first, and taken whole by Want.
func TestPushedIsPopped(t *testing.T) {
	for _, s := range []Stack{on(nil, block(0)), on([]byte{127, 0}, block(0, 126), block(1)), on([]byte{126}, dead(block(1)))} {
		everyList([]byte{0, 126, 127}, 4, func(l []byte) {
			pushed, _ := Push(s, l...)
			if taken, e := Want(pushed, l...); !equal(taken, s) || e != api.OK {
				t.Errorf("Want(%v, %v) = %v, %d", pushed, l, taken, e)
			}
			for _, want := range slices.Backward(l) {
				var v byte
				var e api.Errno
				if pushed, v, e = Pop(pushed); v != want || e != api.OK {
					t.Errorf("%v on %v: popped %d, %d; want %d", l, s, v, e, want)
				}
			}
			if !equal(pushed, s) {
				t.Errorf("%v on %v: left %v", l, s, pushed)
			}
		})
	}
}

// P9.5: what is Sane stays so, over long ways of calls one behind the other, which also are as the words say.
func TestSaneStaysSo(t *testing.T) {
	for start := range uint32(60) {
		s, x := Stack{}, start
		next := func(n uint32) int {
			x = x*1664525 + 1013904223
			return int(x >> 16 % n)
		}
		for range 150 {
			if held(t, s); !Sane(s) || t.Failed() {
				t.Fatalf("from %d: %v", start, s)
			}
			if after, e := anyCall(s, next); e == api.OK {
				s = after
			}
		}
	}
}

// anyCall is what one of the calls answers.
func anyCall(s Stack, next func(uint32) int) (Stack, api.Errno) {
	types := []byte{0, 126, 127}
	from := next(3)
	some := types[from : from+next(uint32(4-from))]
	switch next(9) {
	case 0:
		return Want(s, some...)
	case 1:
		return Kill(s)
	case 2:
		s, _, e := Pop(s)
		return s, e
	case 3:
		s, _, e := Close(s)
		return s, e
	case 4, 5:
		return Open(s, 2+next(3), some[:min(1, len(some))])
	}
	return Push(s, some...)
}

// P1: each call ends with very much, too.
func TestMuch(t *testing.T) {
	s := Stack{Vals: bytes.Repeat([]byte{127}, 1<<20)}
	for k := range 1 << 16 {
		s.Ctrls = append(s.Ctrls, block(k, 127))
	}
	all := bytes.Repeat([]byte{0}, 1<<20-1<<16+1)
	if left, e := Want(s, all...); len(left.Vals) != 1<<16-1 || e != api.OK {
		t.Errorf("Want: %d, %d", len(left.Vals), e)
	}
	if _, e := Want(s, append(all, 0)...); e != api.ErrType {
		t.Errorf("Want of more: %d", e)
	}
	killed, e := Kill(s)
	if len(killed.Vals) != 1<<16-1 || e != api.OK {
		t.Errorf("Kill: %d, %d", len(killed.Vals), e)
	}
	if left, c, e := Close(killed); len(left.Ctrls) != 1<<16-1 || c.Height != 1<<16-1 || e != api.OK {
		t.Errorf("Close: %d, %d, %d", len(left.Ctrls), c.Height, e)
	}
	if l, e := Label(s, 1<<16-1); !bytes.Equal(l, []byte{127}) || e != api.OK {
		t.Errorf("Label: %v, %d", l, e)
	}
	if _, e := Label(s, 1<<16); e != api.ErrName {
		t.Errorf("Label: %d", e)
	}
	if pushed, e := Push(s, s.Vals...); len(pushed.Vals) != 1<<21 || e != api.OK {
		t.Errorf("Push: %d, %d", len(pushed.Vals), e)
	}
	if opened, e := Open(s, 2, s.Vals[:1]); len(opened.Ctrls) != 1<<16+1 || e != api.OK {
		t.Errorf("Open: %d, %d", len(opened.Ctrls), e)
	}
}

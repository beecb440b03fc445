package stack

import (
	"bytes"
	"math"
	"slices"
	"testing"

	"avocet/api"
)

// copied is a stack that shares nothing with that.
func copied(s Stack) Stack {
	c := Stack{Vals: bytes.Clone(s.Vals)}
	for _, x := range s.Ctrls {
		x.End = bytes.Clone(x.End)
		c.Ctrls = append(c.Ctrls, x)
	}
	return c
}

// sameCtrl and equal hold part against part; lists of nothing are the same, nil or not.
func sameCtrl(a, b Ctrl) bool {
	return a.Op == b.Op && bytes.Equal(a.End, b.End) && a.Height == b.Height && a.Dead == b.Dead
}

func equal(a, b Stack) bool {
	return bytes.Equal(a.Vals, b.Vals) && slices.EqualFunc(a.Ctrls, b.Ctrls, sameCtrl)
}

// isEnd: of End, the words of P9.1.
func isEnd(l []byte) bool {
	switch len(l) {
	case 0:
		return true
	case 1:
		return l[0] == 126 || l[0] == 127
	}
	return false
}

// saneByWords is Sane, word by word of P9.1.
func saneByWords(s Stack) bool {
	for _, v := range s.Vals {
		if v != 0 && v != 126 && v != 127 {
			return false
		}
	}
	for k, c := range s.Ctrls {
		if !isEnd(c.End) || c.Height < 0 || k > 0 && c.Height < s.Ctrls[k-1].Height {
			return false
		}
	}
	return len(s.Ctrls) == 0 || s.Ctrls[len(s.Ctrls)-1].Height <= len(s.Vals)
}

// pushByWords is Push, word by word of P9.2.
func pushByWords(s Stack, l []byte) (Stack, api.Errno) {
	if !saneByWords(s) {
		return Stack{}, 1
	}
	for _, v := range l {
		if v > 0 && v < 126 || v > 127 {
			return Stack{}, 1
		}
	}
	c := copied(s)
	c.Vals = slices.Concat(s.Vals, l)
	return c, 0
}

// popByWords is Pop, word by word of P9.2.
func popByWords(s Stack) (Stack, byte, api.Errno) {
	if !saneByWords(s) {
		return Stack{}, 0, 1
	}
	if len(s.Ctrls) == 0 {
		return Stack{}, 0, 5
	}
	inner := s.Ctrls[len(s.Ctrls)-1]
	if len(s.Vals) == inner.Height && inner.Dead {
		return copied(s), 0, 0
	}
	if len(s.Vals) == inner.Height {
		return Stack{}, 0, 5
	}
	c := copied(s)
	c.Vals = c.Vals[:len(s.Vals)-1]
	return c, s.Vals[len(s.Vals)-1], 0
}

// wantByWords is Want, word by word of P9.2: the last one, and then those ahead of it.
func wantByWords(s Stack, l []byte) (Stack, api.Errno) {
	if !saneByWords(s) {
		return Stack{}, 1
	}
	if len(l) == 0 {
		return copied(s), 0
	}
	left, v, e := popByWords(s)
	if e != 0 {
		return Stack{}, e
	}
	if w := l[len(l)-1]; v != 0 && w != 0 && v != w {
		return Stack{}, 5
	}
	return wantByWords(left, l[:len(l)-1])
}

// openByWords is Open, word by word of P9.3.
func openByWords(s Stack, op int, end []byte) (Stack, api.Errno) {
	if !saneByWords(s) || !isEnd(end) {
		return Stack{}, 1
	}
	c := copied(s)
	c.Ctrls = append(c.Ctrls, Ctrl{op, bytes.Clone(end), len(s.Vals), false})
	return c, 0
}

// closeByWords is Close, word by word of P9.3.
func closeByWords(s Stack) (Stack, Ctrl, api.Errno) {
	if !saneByWords(s) {
		return Stack{}, Ctrl{}, 1
	}
	n := len(s.Ctrls)
	if n == 0 {
		return Stack{}, Ctrl{}, 5
	}
	left, e := wantByWords(s, s.Ctrls[n-1].End)
	if e != 0 {
		return Stack{}, Ctrl{}, e
	}
	if len(left.Vals) != s.Ctrls[n-1].Height {
		return Stack{}, Ctrl{}, 5
	}
	closed := left.Ctrls[n-1]
	left.Ctrls = left.Ctrls[:n-1]
	return left, closed, 0
}

// killByWords is Kill, word by word of P9.3.
func killByWords(s Stack) (Stack, api.Errno) {
	if !saneByWords(s) {
		return Stack{}, 1
	}
	n := len(s.Ctrls)
	if n == 0 {
		return Stack{}, 5
	}
	c := copied(s)
	c.Vals = c.Vals[:c.Ctrls[n-1].Height]
	c.Ctrls[n-1].Dead = true
	return c, 0
}

// labelByWords is Label, word by word of P9.4.
func labelByWords(s Stack, n int) ([]byte, api.Errno) {
	if !saneByWords(s) {
		return nil, 1
	}
	for k, c := range slices.Backward(s.Ctrls) {
		if n == len(s.Ctrls)-1-k {
			if c.Op == 3 {
				return nil, 0
			}
			return c.End, 0
		}
	}
	return nil, 6
}

// lists are types in a row, with such as are none among them.
func lists() [][]byte {
	return [][]byte{
		nil, {}, {0}, {126}, {127}, {5}, {0, 0}, {126, 127}, {127, 126}, {127, 0}, {0, 126}, {5, 127}, {127, 5}, {0, 5}, {126, 126},
		{127, 127, 127}, {126, 0, 127}, {0, 0, 0}, {0, 0, 0, 0}, {1, 126, 127}, {126, 255, 127},
	}
}

// numbers are labels below, at and above all that there are.
func numbers(n int) []int {
	l := []int{math.MinInt, math.MinInt + 1, -n - 1, -n, -2, -1, 1 << 32, -1 << 32, math.MaxInt - 1, math.MaxInt}
	for k := range n + 3 {
		l = append(l, k)
	}
	return l
}

// told holds a stack that is answered, and its error, against what they should be: what is OK is Sane.
func told(t *testing.T, call string, s Stack, x any, got Stack, e api.Errno, want Stack, f api.Errno) {
	t.Helper()
	if !equal(got, want) || e != f {
		t.Errorf("%s(%v, %v) = %v, %d; want %v, %d", call, s, x, got, e, want, f)
	}
	if e == api.OK && !Sane(got) {
		t.Errorf("%s(%v, %v) = %v, which is not Sane", call, s, x, got)
	}
}

// held holds each call with a stack against the words, and that the stack stays as it was.
func held(t *testing.T, s Stack) {
	t.Helper()
	kept := copied(s)
	if Sane(s) != saneByWords(s) {
		t.Errorf("Sane(%v) = %v", s, Sane(s))
	}
	for _, l := range lists() {
		heldWith(t, s, l)
	}
	got, v, e := Pop(s)
	want, w, f := popByWords(s)
	told(t, "Pop", s, nil, got, e, want, f)
	if v != w {
		t.Errorf("Pop(%v) = %d; want %d", s, v, w)
	}
	got, c, e := Close(s)
	want, d, f := closeByWords(s)
	told(t, "Close", s, nil, got, e, want, f)
	if !sameCtrl(c, d) {
		t.Errorf("Close(%v) = %v; want %v", s, c, d)
	}
	got, e = Kill(s)
	want, f = killByWords(s)
	told(t, "Kill", s, nil, got, e, want, f)
	for _, n := range numbers(len(s.Ctrls)) {
		l, e := Label(s, n)
		k, f := labelByWords(s, n)
		if !bytes.Equal(l, k) || e != f {
			t.Errorf("Label(%v, %d) = %v, %d; want %v, %d", s, n, l, e, k, f)
		}
	}
	if !equal(s, kept) {
		t.Errorf("%v is changed to %v", kept, s)
	}
}

// heldWith holds each call with a stack and a list against the words, and that the list stays as it was.
func heldWith(t *testing.T, s Stack, l []byte) {
	t.Helper()
	kept := bytes.Clone(l)
	got, e := Push(s, l...)
	want, f := pushByWords(s, l)
	told(t, "Push", s, l, got, e, want, f)
	got, e = Want(s, l...)
	want, f = wantByWords(s, l)
	told(t, "Want", s, l, got, e, want, f)
	got, e = Open(s, len(l), l)
	want, f = openByWords(s, len(l), l)
	told(t, "Open", s, l, got, e, want, f)
	if !bytes.Equal(l, kept) {
		t.Errorf("%v is changed to %v", kept, l)
	}
}

// everyList calls f with each list of up to n of these.
func everyList[T any](of []T, n int, f func([]T)) {
	f(nil)
	if n == 0 {
		return
	}
	for _, x := range of {
		everyList(of, n-1, func(l []T) { f(append([]T{x}, l...)) })
	}
}

// ctrls are what may be open, of these codes, Ends and Heights.
func ctrls(ops []int, ends [][]byte, least, most int) []Ctrl {
	var l []Ctrl
	for _, op := range ops {
		for _, end := range ends {
			for h := least; h <= most; h++ {
				l = append(l, Ctrl{op, end, h, false}, Ctrl{op, end, h, true})
			}
		}
	}
	return l
}

// P9.1 to P9.5: all small stacks, of Heights that may and may not be.
func TestEverySmallStack(t *testing.T) {
	sane := 0
	everyList([]byte{0, 126, 127}, 2, func(vals []byte) {
		open := ctrls([]int{2, 3}, [][]byte{nil, {126}, {127}}, 0, len(vals))
		everyList(open, 2, func(l []Ctrl) {
			s := Stack{vals, l}
			held(t, s)
			if Sane(s) {
				sane++
			}
		})
	})
	if sane < 5000 {
		t.Errorf("just %d of them were Sane", sane)
	}
}

// P9.1 to P9.5: all small stacks of parts that may and may not be.
func TestEverySmallWrongStack(t *testing.T) {
	wrong := 0
	everyList([]byte{0, 127, 5}, 1, func(vals []byte) {
		open := ctrls([]int{3}, [][]byte{{}, {126}, {0}, {127, 126}}, -1, len(vals)+1)
		everyList(open, 2, func(l []Ctrl) {
			s := Stack{vals, l}
			held(t, s)
			if !Sane(s) {
				wrong++
			}
		})
	})
	if wrong < 3000 {
		t.Errorf("just %d of them were not Sane", wrong)
	}
}

// P9.1 to P9.5: three values and one thing that is open, and up to four of these in one another.
func TestMoreOpen(t *testing.T) {
	everyList([]byte{0, 126, 127}, 3, func(vals []byte) {
		for _, c := range ctrls([]int{4}, [][]byte{{}, {126}, {127}}, -1, 4) {
			held(t, Stack{vals, []Ctrl{c}})
		}
	})
	everyList([]int{-1, 0, 1, 2, 3, 4}, 4, func(heights []int) {
		var l []Ctrl
		for k, h := range heights {
			l = append(l, Ctrl{Op: 2 + k, End: []byte{126, 127}[k%2 : k%2+1], Height: h})
		}
		held(t, Stack{[]byte{127, 126, 127}, l})
	})
}

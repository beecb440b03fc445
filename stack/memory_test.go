package stack

import (
	"bytes"
	"reflect"
	"slices"
	"testing"

	"avocet/api"
)

// withRoom is a list with room behind it, and all of the memory that it lies in.
func withRoom[T any](l []T, behind T) ([]T, []T) {
	all := append(slices.Clone(l), slices.Repeat([]T{behind}, 20)...)
	return all[:len(l)], all
}

// memory is where a list lies, with the room behind it.
type memory struct{ from, behind uintptr }

// memoriesOf are those of all lists of a value, and of the lists in the room behind them.
func memoriesOf(v reflect.Value) []memory {
	var l []memory
	switch v.Kind() {
	case reflect.Struct:
		for k := range v.NumField() {
			l = append(l, memoriesOf(v.Field(k))...)
		}
	case reflect.Slice:
		if v.Cap() > 0 {
			l = append(l, memory{v.Pointer(), v.Pointer() + uintptr(v.Cap())*v.Type().Elem().Size()})
		}
		whole := v.Slice(0, v.Cap())
		for k := range whole.Len() {
			l = append(l, memoriesOf(whole.Index(k))...)
		}
	}
	return l
}

// answer is all that one call tells.
type answer struct {
	call   string
	stack  Stack
	closed Ctrl
	list   []byte
	v      byte
	e      api.Errno
}

func sameAnswer(a, b answer) bool {
	return a.call == b.call && equal(a.stack, b.stack) && sameCtrl(a.closed, b.closed) && bytes.Equal(a.list, b.list) && a.v == b.v && a.e == b.e
}

// kept is an answer that shares nothing with that.
func kept(a answer) answer {
	a.stack, a.list, a.closed.End = copied(a.stack), bytes.Clone(a.list), bytes.Clone(a.closed.End)
	return a
}

// scratch writes over all lists of an answer, and over the room behind them.
func scratch(a answer) {
	whole := func(l []byte) []byte { return l[:cap(l)] }
	for _, c := range a.stack.Ctrls[:cap(a.stack.Ctrls)] {
		clear(whole(c.End))
	}
	clear(a.stack.Ctrls[:cap(a.stack.Ctrls)])
	clear(whole(a.stack.Vals))
	clear(whole(a.closed.End))
	clear(whole(a.list))
}

// answers is what each call tells of a stack, and of types that fit on it, and that don't.
func answers(s Stack, fit, unfit, end []byte) []answer {
	var l []answer
	add := func(call string, s Stack, e api.Errno) { l = append(l, answer{call: call, stack: s, e: e}) }
	both := func(call string, f func(...byte) (Stack, api.Errno)) {
		for _, x := range [][]byte{nil, fit, unfit} {
			got, e := f(x...)
			add(call, got, e)
		}
	}
	both("Push", func(x ...byte) (Stack, api.Errno) { return Push(s, x...) })
	both("Want", func(x ...byte) (Stack, api.Errno) { return Want(s, x...) })
	for _, x := range [][]byte{nil, end, unfit} {
		got, e := Open(s, 4, x)
		add("Open", got, e)
	}
	left, v, e := Pop(s)
	l = append(l, answer{call: "Pop", stack: left, v: v, e: e})
	left, c, e := Close(s)
	l = append(l, answer{call: "Close", stack: left, closed: c, e: e})
	left, e = Kill(s)
	add("Kill", left, e)
	for n := -1; n <= len(s.Ctrls); n++ {
		x, e := Label(s, n)
		l = append(l, answer{call: "Label", list: x, e: e})
	}
	return l
}

// shared are stacks of which each End lies in the memory of another list; the last one is not Sane.
func shared() []Stack {
	vals := []byte{127, 126, 127}
	return []Stack{
		{vals, []Ctrl{{2, vals[:1], 0, false}, {3, vals[1:2], 1, false}, {4, vals[2:], 2, false}}},
		{vals, []Ctrl{{2, vals[:1], 0, false}, {2, vals[:1], 2, true}}},
		{vals[:2], []Ctrl{{2, vals[:1], 0, false}, {2, vals[:1], 2, true}}},
		{vals, []Ctrl{{2, vals[:1], 0, false}, {2, vals[:0], 3, false}}},
		{vals, nil},
		{vals, []Ctrl{{2, vals[:2], 0, false}}},
	}
}

// R3: what is answered is new memory: no list of it shares memory with what was handed in, nor with another list of any answer, also not in the room behind.
func TestAnswersAreNewMemory(t *testing.T) {
	of := func(x any) []memory { return memoriesOf(reflect.ValueOf(x)) }
	for _, s := range shared() {
		fit, unfit := []byte{126, 127}, []byte{126, 5}
		handed := slices.Concat(of(s), of(fit), of(unfit))
		var all []memory
		for _, a := range answers(s, fit, unfit, fit[:1]) {
			all = append(all, of(a)...)
		}
		for k, x := range all {
			for _, y := range slices.Concat(handed, all[:k]) {
				if x.from < y.behind && y.from < x.behind {
					t.Errorf("of %v: %v and %v share memory", s, x, y)
				}
			}
		}
		if Sane(s) && len(all) < 8 {
			t.Errorf("of %v just %d lists", s, len(all))
		}
	}
}

// R3: what is handed in isn't changed, also in the room behind it, whatever is done with the answers.
func TestNothingHandedInIsChanged(t *testing.T) {
	for _, s := range shared() {
		var rooms [][]byte
		room := func(l []byte) []byte {
			l, all := withRoom(l, 0xee)
			rooms = append(rooms, all)
			return l
		}
		s.Vals = room(s.Vals)
		open, allOpen := withRoom(s.Ctrls, Ctrl{Op: 99, End: []byte{99}, Height: 99, Dead: true})
		for k := range open {
			open[k].End = room(open[k].End)
		}
		s.Ctrls = open
		fit, unfit, end := room([]byte{126, 127}), room([]byte{126, 5}), room([]byte{126})
		keptOpen := copied(Stack{Ctrls: allOpen}).Ctrls
		var keptRooms [][]byte
		for _, all := range rooms {
			keptRooms = append(keptRooms, bytes.Clone(all))
		}
		for _, a := range answers(s, fit, unfit, end) {
			_ = append(a.stack.Vals, 1, 2, 3)
			_ = append(a.stack.Ctrls, Ctrl{})
			_ = append(a.list, 1)
			scratch(a)
		}
		Sane(s)
		if !slices.EqualFunc(allOpen, keptOpen, sameCtrl) || !slices.EqualFunc(rooms, keptRooms, bytes.Equal) {
			t.Errorf("changed: %v, %v; were %v, %v", allOpen, rooms, keptOpen, keptRooms)
		}
	}
}

// R3: an answer hangs neither on what was handed in, once it is told, nor on another answer.
func TestAnswersKeepToThemselves(t *testing.T) {
	for k := range shared() {
		s := shared()[k]
		fit, unfit, end := []byte{126, 127}, []byte{126, 5}, []byte{126}
		first := answers(s, fit, unfit, end)
		var want []answer
		for _, a := range first {
			want = append(want, kept(a))
		}
		for n := range first {
			again := answers(s, fit, unfit, end)
			scratch(again[n])
			if !slices.EqualFunc(first, want, sameAnswer) || !slices.EqualFunc(answers(s, fit, unfit, end), want, sameAnswer) {
				t.Errorf("of %v: answers share memory with one of %s", s, want[n].call)
			}
		}
		scratch(answer{stack: s})
		clear(fit)
		clear(unfit)
		clear(end)
		if !slices.EqualFunc(first, want, sameAnswer) {
			t.Errorf("answers hang on what was handed in: %v; were %v", first, want)
		}
		for n := range first {
			scratch(first[n])
			if !slices.EqualFunc(first[n+1:], want[n+1:], sameAnswer) {
				t.Errorf("the answer of %s shares memory with later ones", want[n].call)
			}
		}
	}
}

// Two stacks that were made of one don't see each other: what is laid on one isn't on the other.
func TestTwoOfOne(t *testing.T) {
	s, _ := Open(Stack{}, 2, []byte{127})
	s, _ = Push(s, 126, 126, 127)
	popped, _, _ := Pop(s)
	one, _ := Push(popped, 0)
	two, _ := Push(popped, 126)
	opened, _ := Open(popped, 2, []byte{127})
	third, _ := Open(popped, 3, []byte{126})
	killed, _ := Kill(opened)
	if !bytes.Equal(s.Vals, []byte{126, 126, 127}) || !bytes.Equal(one.Vals, []byte{126, 126, 0}) || !bytes.Equal(two.Vals, []byte{126, 126, 126}) {
		t.Errorf("%v, %v, %v", s, one, two)
	}
	if opened.Ctrls[1].Op != 2 || opened.Ctrls[1].Dead || third.Ctrls[1].Op != 3 || !killed.Ctrls[1].Dead || s.Ctrls[0].Dead {
		t.Errorf("%v, %v, %v", opened, third, killed)
	}
}

// What is answered hangs on nothing that was asked before: also after errors.
func TestNothingIsKept(t *testing.T) {
	s := on([]byte{127, 126}, block(0, 127), Ctrl{Op: 3, End: []byte{126}, Height: 1})
	first := answers(s, []byte{126}, []byte{5}, []byte{127})
	for _, x := range append(shared(), Stack{}, on([]byte{9}), on(nil, dead(block(0))), s) {
		answers(x, []byte{0, 127}, []byte{200}, nil)
	}
	if again := answers(s, []byte{126}, []byte{5}, []byte{127}); !slices.EqualFunc(first, again, sameAnswer) {
		t.Errorf("%v; was %v", again, first)
	}
}

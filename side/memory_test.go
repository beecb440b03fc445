package side

import (
	"fmt"
	"reflect"
	"slices"
	"testing"

	"avocet/api"
	"avocet/check"
)

// handed is all that is handed in.
type handed struct {
	Env check.Env
	B   []byte
	At  int
	T   Table
	L   []Jump
}

// answer is all that one call tells.
type answer struct {
	T  Table
	N  int
	J  Jump
	OK bool
	L  []Jump
	E  api.Errno
}

// withLists are the answers that have lists, which are told first.
const withLists = 4

// answers is what each call tells.
func answers(h handed) []answer {
	x, n, e := Make(h.Env, h.B, h.At)
	l := []answer{{T: x, N: n, E: e}, {L: Order(h.L)}, {L: Order(h.T.Jumps)}, {L: Order(x.Jumps)}}
	for _, at := range append(slices.Clone(h.T.Starts), -1, 7) {
		for k := -1; k < 3; k++ {
			j, ok := Of(h.T, at, k)
			l = append(l, answer{J: j, OK: ok})
		}
	}
	return l
}

// roomy is a list that has something in the room behind it.
func roomy[T any](l []T, behind ...T) []T { return slices.Concat(l, behind)[:len(l)] }

// calls are of bodies that fit and of others, of tables and lists in order and in none, with room behind all of them; some lie in one memory.
func calls() []handed {
	n := lot(21)
	var l []handed
	for k := range 12 {
		e := gives([]string{"", "i", "l"}[k%3])
		e.Types, e.Funcs, e.Globals = roomy(e.Types, fn("ll", "l")), roomy(e.Funcs, 3, 2), roomy(e.Globals, check.Glob{Val: 126})
		e.Locals, e.Results = roomy(e.Locals, 5), roomy(e.Results, 126, 127)
		b := laid(grown(&n, e, 10+3*k))
		x, _, _ := Make(e, b, 0)
		x.Starts, x.Loops, x.Heights, x.Jumps = roomy(x.Starts, 7, 7), roomy(x.Loops, 7), roomy(x.Heights, 7), roomy(x.Jumps, Jump{7, 7, 7, 7})
		if k%4 == 3 {
			slices.Reverse(x.Jumps)
		}
		row := roomy([]Jump{{5, k, 0, 0}, {3, k, 1, 1}, {5, 0, 0, 0}, {-1, 0, 0, 0}}, Jump{0, 9, 9, 9})
		l = append(l, handed{e, roomy(b, 65, 0, 11), 0, x, row}, handed{e, roomy(b[:len(b)-1], 11), 0, x, row[:2]}, handed{e, roomy(slices.Concat([]byte{1, 2}, b), 11), 2, Table{Jumps: row, Starts: []int{3, 5}}, x.Jumps}, handed{e, b, 1 + k, Table{}, nil})
	}
	return l
}

// listsOf calls f with all lists of a value, and with the lists in the room behind them, each with its own room.
func listsOf(v reflect.Value, f func(reflect.Value)) {
	switch v.Kind() {
	case reflect.Struct:
		for k := range v.NumField() {
			listsOf(v.Field(k), f)
		}
	case reflect.Slice:
		whole := v.Slice(0, v.Cap())
		for k := range whole.Len() {
			listsOf(whole.Index(k), f)
		}
		if whole.Len() > 0 {
			f(whole)
		}
	}
}

// look is how a value looks, with all that lies in the room behind its lists.
func look(x any) string {
	text := fmt.Sprint(x)
	listsOf(reflect.ValueOf(x), func(v reflect.Value) { text += fmt.Sprint(v.Interface()) })
	return text
}

// scratch writes over all lists of a value, and over the room behind them.
func scratch(x any) {
	listsOf(reflect.ValueOf(x), func(v reflect.Value) { v.Clear() })
}

// memory is where a list lies, with the room behind it.
type memory struct{ from, behind uintptr }

func memoriesOf(x any) []memory {
	var l []memory
	listsOf(reflect.ValueOf(x), func(v reflect.Value) {
		l = append(l, memory{v.Pointer(), v.Pointer() + uintptr(v.Len())*v.Type().Elem().Size()})
	})
	return l
}

// R3: no list of an answer shares memory with what was handed in, nor with another list of any answer, also not in the room behind.
func TestAnswersAreNewMemory(t *testing.T) {
	lists := 0
	for n, h := range calls() {
		in, out := memoriesOf(h), memoriesOf(answers(h))
		lists += len(out)
		for k, x := range out {
			for _, y := range slices.Concat(in, out[:k]) {
				if x.from < y.behind && y.from < x.behind {
					t.Errorf("of call %d: %v and %v share memory", n, x, y)
				}
			}
		}
	}
	if lists < 200 {
		t.Errorf("just %d lists", lists)
	}
}

// R3: what is handed in isn't changed, also in the room behind it, whatever is done with the answers.
func TestNothingHandedInIsChanged(t *testing.T) {
	for n, h := range calls() {
		kept := look(h)
		for _, a := range answers(h) {
			scratch(a)
		}
		if now := look(h); now != kept {
			t.Errorf("call %d: %s; was %s", n, now, kept)
		}
	}
}

// What lies in the room behind what is handed in isn't seen.
func TestRoomIsNotSeen(t *testing.T) {
	for n, h := range calls() {
		kept := look(answers(h))
		h.Env.Types, h.Env.Funcs, h.Env.Globals, h.Env.Locals, h.Env.Results = slices.Clip(h.Env.Types), slices.Clip(h.Env.Funcs), slices.Clip(h.Env.Globals), slices.Clip(h.Env.Locals), slices.Clip(h.Env.Results)
		h.B, h.T.Starts, h.T.Jumps, h.L = slices.Clip(h.B), slices.Clip(h.T.Starts), slices.Clip(h.T.Jumps), slices.Clip(h.L)
		if now := look(answers(h)); now != kept {
			t.Errorf("call %d: %s without room; was %s", n, now, kept)
		}
	}
}

// R3: an answer hangs neither on what was handed in, once it is told, nor on another answer.
func TestAnswersKeepToThemselves(t *testing.T) {
	for n, h := range calls() {
		right := look(answers(h))
		for k := range withLists {
			l, fresh := answers(h), answers(h)
			scratch(l[k])
			if look(fresh) != right || look(answers(h)) != right {
				t.Errorf("call %d: what is told hangs on the %d-th answer of another time", n, k)
			}
			if l[k] = fresh[k]; look(l) != right {
				t.Errorf("call %d: the %d-th answer shares memory with others", n, k)
			}
		}
		l := answers(h)
		for _, other := range calls() {
			answers(other)
		}
		scratch(h)
		if now := look(l); now != right {
			t.Errorf("call %d: %s; was %s", n, now, right)
		}
	}
}

// What is answered hangs on nothing that was asked before: also after errors, and of one after another.
func TestNothingIsKept(t *testing.T) {
	all := calls()
	var first []string
	for _, h := range all {
		first = append(first, look(answers(h)))
	}
	for k, h := range slices.Backward(all) {
		if again := look(answers(h)); again != first[k] {
			t.Errorf("call %d: %s; was %s", k, again, first[k])
		}
	}
}

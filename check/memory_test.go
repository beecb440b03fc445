package check

import (
	"bytes"
	"reflect"
	"slices"
	"testing"

	"avocet/api"
	"avocet/stack"
)

// memory is where a list lies, with the room behind it.
type memory struct{ from, behind uintptr }

// listsOf calls f with all lists of a value, and with the lists in the room behind them.
func listsOf(v reflect.Value, f func(reflect.Value)) {
	switch v.Kind() {
	case reflect.Struct:
		for k := range v.NumField() {
			listsOf(v.Field(k), f)
		}
	case reflect.Slice:
		whole := v.Slice(0, v.Cap())
		for k := range whole.Len() {
			listsOf(whole.Index(k), f)
		}
		if v.Cap() > 0 {
			f(v)
		}
	}
}

// memoriesOf are those of all lists of a value.
func memoriesOf(x any) []memory {
	var l []memory
	listsOf(reflect.ValueOf(x), func(v reflect.Value) {
		l = append(l, memory{v.Pointer(), v.Pointer() + uintptr(v.Cap())*v.Type().Elem().Size()})
	})
	return l
}

// scratch writes over all lists of a value, and over the room behind them.
func scratch(x any) {
	listsOf(reflect.ValueOf(x), func(v reflect.Value) {
		for k := range v.Cap() {
			v.Slice(0, v.Cap()).Index(k).SetZero()
		}
	})
}

// copied is a value that shares nothing with that, of all that lies in its lists' room too.
func copied[T any](x T) T {
	return copyOf(reflect.ValueOf(x)).Interface().(T)
}

func copyOf(v reflect.Value) reflect.Value {
	c := reflect.New(v.Type()).Elem()
	c.Set(v)
	switch {
	case v.Kind() == reflect.Struct:
		for k := range v.NumField() {
			c.Field(k).Set(copyOf(v.Field(k)))
		}
	case v.Kind() == reflect.Slice && v.Cap() > 0:
		whole := v.Slice(0, v.Cap())
		room := reflect.MakeSlice(v.Type(), v.Cap(), v.Cap())
		for k := range whole.Len() {
			room.Index(k).Set(copyOf(whole.Index(k)))
		}
		c.Set(room.Slice(0, v.Len()))
	}
	return c
}

// sameWhole tells whether two values are the same, with the room behind their lists.
func sameWhole(a, b any) bool {
	whole := func(x any) (l []any) {
		listsOf(reflect.ValueOf(x), func(v reflect.Value) { l = append(l, v.Slice(0, v.Cap()).Interface()) })
		return append(l, x)
	}
	return reflect.DeepEqual(whole(a), whole(b))
}

// handed is all that is handed in.
type handed struct {
	Env   Env
	Stack stack.Stack
	Step  []api.Instr
	Body  []api.Instr
}

// answer is all that one call tells.
type answer struct {
	Stacks []stack.Stack
	Type   api.FuncType
	OK     bool
	E      api.Errno
}

func sameAnswer(a, b answer) bool {
	return slices.EqualFunc(a.Stacks, b.Stacks, sameStack) && bytes.Equal(a.Type.Params, b.Type.Params) && bytes.Equal(a.Type.Results, b.Type.Results) && a.OK == b.OK && a.E == b.E
}

// answers is what each call tells.
func answers(h handed) []answer {
	var l []answer
	for f := -1; f <= len(h.Env.Funcs); f++ {
		t, ok := Type(h.Env, f)
		l = append(l, answer{Type: t, OK: ok})
	}
	for _, i := range h.Step {
		s, e := Step(h.Env, h.Stack, i)
		l = append(l, answer{Stacks: []stack.Stack{s}, E: e})
	}
	path, e := Path(h.Env, h.Body)
	return append(l, answer{Stacks: path, E: e}, answer{E: Body(h.Env, h.Body)})
}

// calls are such as have lists of each kind in them; some lie in one memory, and Types of one of them may not be.
func calls() []handed {
	steps := code("unreachable nop block block:i loop:l if:i else end br:0 br:1 br:2 br_if:0 br_if:1 br_table:0 br_table:0,2,0 return call:0 call:1 call:9 call_indirect:1 call_indirect:7 drop select local.get:1 local.set:0 local.tee:0 global.get:1 global.set:2 i32.load:2 i32.store:0 memory.size memory.grow i32 i64 i32.eqz i32.add")
	long := code("block:l i64 local.tee:1 i32 br_if:0 end drop i32 if:i i32 nop else i32 return end i32 i64 call:0 drop loop i32 br_table:1,1 end nop")
	stacks := []stack.Stack{
		on("iiii", block(0, "i"), dead(loop(1, "l")), when(2, "i")), on("lii", block(0, "i"), opened(5, 1, "l")), on("iii", block(0, "i"), dead(when(3, "i"))), on("li", block(0, "i"), when(1, "i")), on(""), on("5"),
	}
	shared := vals("ilililil")
	within := env()
	within.Locals, within.Results, within.Types = shared[:2], shared[:1], []api.FuncType{{Params: shared[:3], Results: shared[:1]}, {Params: shared[:1], Results: shared[:1]}}
	within.Funcs = within.Funcs[:2]
	lying := stack.Stack{Vals: shared[:6], Ctrls: []stack.Ctrl{{Op: 2, End: shared[:1]}, {Op: 4, End: shared[1:2], Height: 5}}}
	wrong := env()
	wrong.Types = append(wrong.Types, fn("5", "il"))
	l := []handed{{within, lying, steps, code("local.get:0 local.get:1 local.get:0 call:1")}, {within, lying, steps, code("local.get:0")}, {wrong, stacks[0], steps, long}, {env(), stacks[0], steps, code("end")}, {bare(), stacks[1], steps, nil}}
	for _, s := range stacks {
		l = append(l, handed{env(), s, steps, long})
	}
	return l
}

// R3: no list of an answer shares memory with what was handed in, nor with another list of any answer, also not in the room behind.
func TestAnswersAreNewMemory(t *testing.T) {
	lists := 0
	for n, h := range calls() {
		var all []memory
		for _, a := range answers(h) {
			all = append(all, memoriesOf(a)...)
		}
		lists += len(all)
		in := memoriesOf(h)
		for k, x := range all {
			for _, y := range slices.Concat(in, all[:k]) {
				if x.from < y.behind && y.from < x.behind {
					t.Errorf("of call %d: %v and %v share memory", n, x, y)
				}
			}
		}
	}
	if lists < 1000 {
		t.Errorf("just %d lists", lists)
	}
}

// withRoom is a value of which each list has room behind it, with something in it.
func withRoom[T any](x T) T {
	return roomOf(reflect.ValueOf(x)).Interface().(T)
}

func roomOf(v reflect.Value) reflect.Value {
	c := reflect.New(v.Type()).Elem()
	c.Set(v)
	switch v.Kind() {
	case reflect.Struct:
		for k := range v.NumField() {
			c.Field(k).Set(roomOf(v.Field(k)))
		}
	case reflect.Slice:
		room := reflect.MakeSlice(v.Type(), v.Len()+5, v.Len()+5)
		for k := range v.Len() {
			room.Index(k).Set(roomOf(v.Index(k)))
		}
		for k := v.Len(); k < room.Len(); k++ {
			fill(room.Index(k))
		}
		c.Set(room.Slice(0, v.Len()))
	}
	return c
}

// fill writes something that is nowhere else.
func fill(v reflect.Value) {
	switch v.Kind() {
	case reflect.Int:
		v.SetInt(-77)
	case reflect.Uint8, reflect.Uint64:
		v.SetUint(77)
	case reflect.Bool:
		v.SetBool(true)
	case reflect.Struct:
		for k := range v.NumField() {
			fill(v.Field(k))
		}
	case reflect.Slice:
		v.Set(reflect.MakeSlice(v.Type(), 3, 3))
		for k := range 3 {
			fill(v.Index(k))
		}
	}
}

// R3: what is handed in isn't changed, also in the room behind it, whatever is done with the answers; and what is in that room isn't seen.
func TestNothingHandedInIsChanged(t *testing.T) {
	for n, x := range calls() {
		right := answers(x)
		h := withRoom(x)
		kept := copied(h)
		got := answers(h)
		if !slices.EqualFunc(got, right, sameAnswer) {
			t.Errorf("call %d: %v; without room %v", n, got, right)
		}
		for _, a := range got {
			for _, s := range a.Stacks {
				_, _ = append(s.Vals, 1, 2, 3), append(s.Ctrls, stack.Ctrl{Op: 1})
			}
			_, _ = append(a.Type.Params, 1), append(a.Type.Results, 1)
			scratch(a)
		}
		if !sameWhole(h, kept) {
			t.Errorf("call %d: %v; was %v", n, h, kept)
		}
	}
}

// R3: an answer hangs neither on what was handed in, once it is told, nor on another answer, nor is it changed by a later call.
func TestAnswersKeepToThemselves(t *testing.T) {
	for n := range calls() {
		h := copied(calls()[n])
		first := answers(h)
		right := copied(first)
		for k := range first {
			again := answers(h)
			scratch(again[k])
			again[k] = right[k]
			if !slices.EqualFunc(again, right, sameAnswer) || !slices.EqualFunc(first, right, sameAnswer) {
				t.Errorf("call %d: answers share memory with the %d-th", n, k)
			}
		}
		scratch(h)
		for _, other := range calls() {
			answers(other)
		}
		if !slices.EqualFunc(first, right, sameAnswer) {
			t.Errorf("call %d: %v; were %v", n, first, right)
		}
		for k := range first {
			scratch(first[k])
			if !slices.EqualFunc(first[k+1:], right[k+1:], sameAnswer) {
				t.Errorf("call %d: the %d-th answer shares memory with later ones", n, k)
			}
		}
	}
}

// The stacks of a Path keep to themselves: what is written over one isn't seen in another.
func TestStacksOfAPathKeepToThemselves(t *testing.T) {
	l := code("nop block:l i64 nop i32 br_if:0 end nop drop i32 nop")
	right, _ := Path(gives("i"), l)
	for k := range right {
		path, _ := Path(gives("i"), l)
		scratch(path[k])
		for n := range path {
			if n != k && !sameStack(path[n], right[n]) {
				t.Errorf("the %d-th stack shares memory with the %d-th", n, k)
			}
		}
	}
}

// What is answered hangs on nothing that was asked before: also after errors, and of one after another.
func TestNothingIsKept(t *testing.T) {
	all := calls()
	var first [][]answer
	for _, h := range all {
		first = append(first, copied(answers(h)))
	}
	for k, h := range slices.Backward(all) {
		if again := answers(h); !slices.EqualFunc(again, first[k], sameAnswer) {
			t.Errorf("call %d: %v; was %v", k, again, first[k])
		}
	}
}

package valid

import (
	"reflect"
	"slices"
	"testing"

	"avocet/api"
	"avocet/check"
)

// place is where a list lies, with the room behind it.
type place struct{ from, behind uintptr }

// listsOf calls f with all lists of a value, and with the lists in the room behind them.
func listsOf(v reflect.Value, f func(reflect.Value)) {
	switch v.Kind() {
	case reflect.Struct:
		for k := range v.NumField() {
			listsOf(v.Field(k), f)
		}
	case reflect.Slice:
		whole := v.Slice(0, v.Cap())
		for k := range whole.Len() {
			listsOf(whole.Index(k), f)
		}
		if v.Cap() > 0 {
			f(v)
		}
	}
}

// placesOf are those of all lists of a value.
func placesOf(x any) []place {
	var l []place
	listsOf(reflect.ValueOf(x), func(v reflect.Value) {
		l = append(l, place{v.Pointer(), v.Pointer() + uintptr(v.Cap())*v.Type().Elem().Size()})
	})
	return l
}

// scratch writes over all lists of a value, and over the room behind them.
func scratch(x any) {
	listsOf(reflect.ValueOf(x), func(v reflect.Value) {
		for k := range v.Cap() {
			v.Slice(0, v.Cap()).Index(k).SetZero()
		}
	})
}

// whole is all that lies in a value's lists, and in the room behind them, as new memory.
func whole(x any) []any {
	l := []any{deep(reflect.ValueOf(x)).Interface()}
	listsOf(reflect.ValueOf(x), func(v reflect.Value) { l = append(l, deep(v.Slice(0, v.Cap())).Interface()) })
	return l
}

// withRoom is a value of which each list has room behind it, with something in it.
func withRoom[T any](x T) T { return roomOf(reflect.ValueOf(x)).Interface().(T) }

func roomOf(v reflect.Value) reflect.Value {
	out := reflect.New(v.Type()).Elem()
	out.Set(v)
	switch v.Kind() {
	case reflect.Struct:
		for k := range v.NumField() {
			out.Field(k).Set(roomOf(v.Field(k)))
		}
	case reflect.Slice:
		room := reflect.MakeSlice(v.Type(), v.Len()+5, v.Len()+5)
		for k := range v.Len() {
			room.Index(k).Set(roomOf(v.Index(k)))
		}
		for k := v.Len(); k < room.Len(); k++ {
			fill(room.Index(k))
		}
		out.Set(room.Slice(0, v.Len()))
	}
	return out
}

// fill writes something that is nowhere else.
func fill(v reflect.Value) {
	switch v.Kind() {
	case reflect.Int:
		v.SetInt(-77)
	case reflect.Uint8, reflect.Uint64:
		v.SetUint(77)
	case reflect.Bool:
		v.SetBool(true)
	case reflect.String:
		v.SetString("room")
	case reflect.Struct:
		for k := range v.NumField() {
			fill(v.Field(k))
		}
	case reflect.Slice:
		v.Set(reflect.MakeSlice(v.Type(), 3, 3))
		for k := range 3 {
			fill(v.Index(k))
		}
	}
}

// handed is all that is handed in.
type handed struct {
	M api.Module
	I []api.Instr
	B []byte
}

// answer is all that one call tells.
type answer struct {
	Env     check.Env
	OK      bool
	Globals []check.Glob
	Limits  []api.Limits
	M       api.Module
	E       api.Errno
}

// answers is what each call tells.
func answers(h handed) []answer {
	l := []answer{{Globals: Globals(h.M)}, {Limits: Tables(h.M)}, {Limits: Memories(h.M)}, {E: Valid(h.M)}}
	for _, i := range h.I {
		l = append(l, answer{E: Const(h.M, i, api.I32)}, answer{E: Const(h.M, i, api.I64)})
	}
	for f := -1; f <= len(h.M.Funcs); f++ {
		e, ok := Env(h.M, f)
		l = append(l, answer{Env: e, OK: ok})
	}
	m, e := Load(h.B)
	return append(l, answer{M: m, E: e})
}

// calls are of modules with lists of each kind in them; in one of them, lists lie in one memory.
func calls(t *testing.T) []handed {
	i := []api.Instr{i32(0), i64(0), global(0), global(1), global(2), global(3), {Op: 14, A: 1, Labels: []int{0, 1}}}
	of := func(m api.Module, from api.Module) handed { return handed{m, i, encoded(t, from)} }
	l := []handed{of(full(), full()), of(other(), other()), of(api.Module{}, api.Module{Start: -1}), {full(), nil, []byte("\x00asm")}}
	for _, x := range spoils()[1:] {
		m := full()
		x.do(&m)
		l = append(l, of(m, m))
	}
	shared := full()
	in := vals("il")
	shared.Types = []api.FuncType{{}, {Params: in[:1], Results: in[:1]}, {Params: in[:2], Results: in[1:]}, {Params: in, Results: in[:1]}}
	shared.Codes[0].Locals, shared.Codes[1].Locals = in[1:], in
	numbers := []int{1, 0, 2, 0}
	shared.Funcs, shared.Elems[0].Funcs, shared.Elems[1].Funcs = numbers[:3], numbers, numbers[1:]
	return append(l, of(shared, shared))
}

// R3: no list of an answer shares memory with what was handed in, nor with another list of any answer, also not in the room behind.
func TestAnswersAreNewMemory(t *testing.T) {
	lists := 0
	for n, h := range calls(t) {
		var all []place
		for _, a := range answers(h) {
			all = append(all, placesOf(a)...)
		}
		lists += len(all)
		in := placesOf(h)
		for k, x := range all {
			for _, y := range slices.Concat(in, all[:k]) {
				if x.from < y.behind && y.from < x.behind {
					t.Errorf("of call %d: %v and %v share memory", n, x, y)
				}
			}
		}
	}
	if lists < 1000 {
		t.Errorf("just %d lists", lists)
	}
}

// R3: what is handed in isn't changed, also in the room behind it, whatever is done with the answers; and what is in that room isn't seen.
func TestNothingHandedInIsChanged(t *testing.T) {
	for n, x := range calls(t) {
		right := answers(x)
		h := withRoom(x)
		kept := whole(h)
		got := answers(h)
		if !equal(got, right) {
			t.Errorf("call %d: %s; without room %s", n, short(got), short(right))
		}
		for _, a := range got {
			scratch(a)
		}
		if !reflect.DeepEqual(whole(h), kept) {
			t.Errorf("call %d: %s is changed", n, short(h))
		}
	}
}

// R3: an answer hangs neither on what was handed in, once it is told, nor on another answer, nor is it changed by a later call.
func TestAnswersKeepToThemselves(t *testing.T) {
	all := calls(t)
	for n, x := range all {
		h := cloned(x)
		first := answers(h)
		right := cloned(first)
		for k := range first {
			again := answers(h)
			scratch(again[k])
			again[k] = right[k]
			if !equal(again, right) || !equal(first, right) {
				t.Errorf("call %d: answers share memory with the %d-th", n, k)
			}
		}
		scratch(h)
		for _, other := range all {
			answers(other)
		}
		if !equal(first, right) {
			t.Errorf("call %d: %s; were %s", n, short(first), short(right))
		}
	}
}

// What is answered hangs on nothing that was asked before: also after errors, and of one after another.
func TestNothingIsKept(t *testing.T) {
	all := calls(t)
	var first [][]answer
	for _, h := range all {
		first = append(first, cloned(answers(h)))
	}
	for k, h := range slices.Backward(all) {
		if again := answers(h); !equal(again, first[k]) {
			t.Errorf("call %d: %s; was %s", k, short(again), short(first[k]))
		}
	}
}

// Checks are told as long as they are asked for, and no longer.
func TestChecksAreToldOneByOne(t *testing.T) {
	m := full()
	n := 0
	for e := range checks(m) {
		if n++; e != api.OK {
			t.Errorf("the check %d tells %d", n, e)
		}
	}
	for most := 1; most <= n; most++ {
		told := 0
		for range checks(m) {
			if told++; told == most {
				break
			}
		}
		if told != most {
			t.Errorf("%d are told; want %d", told, most)
		}
	}
	for most := 1; most <= 3; most++ {
		var l []api.Import
		for i := range imports(m, api.Global) {
			if l = append(l, i); len(l) == most {
				break
			}
		}
		if len(l) != most || l[most-1].Name != []string{"g", "h", "c"}[most-1] {
			t.Errorf("%v", l)
		}
	}
}

package module

import (
	"bytes"
	"math"
	"reflect"
	"slices"
	"strings"
	"testing"

	"avocet/api"
)

// P8.3: how often each byte stands one behind the other, and it.
func TestRuns(t *testing.T) {
	for _, x := range []struct {
		l    []byte
		runs [][2]int
	}{
		{nil, nil}, {[]byte{}, nil}, {[]byte{127}, [][2]int{{1, 127}}}, {[]byte{0}, [][2]int{{1, 0}}}, {[]byte{255}, [][2]int{{1, 255}}},
		{[]byte{5, 5}, [][2]int{{2, 5}}}, {[]byte{0, 0, 0}, [][2]int{{3, 0}}}, {[]byte{0, 1}, [][2]int{{1, 0}, {1, 1}}}, {[]byte{127, 127, 126, 127}, [][2]int{{2, 127}, {1, 126}, {1, 127}}},
		{[]byte{1, 2, 1, 2}, [][2]int{{1, 1}, {1, 2}, {1, 1}, {1, 2}}}, {[]byte{1, 2, 2, 2, 3, 3, 1}, [][2]int{{1, 1}, {3, 2}, {2, 3}, {1, 1}}}, {bytes.Repeat([]byte{9}, 100000), [][2]int{{100000, 9}}},
	} {
		if r := Runs(x.l); !slices.Equal(r, x.runs) {
			t.Errorf("Runs(%.100v) = %v; want %v", x.l, r, x.runs)
		}
	}
	if r := Runs(bytes.Repeat([]byte{3, 4}, 50000)); len(r) != 100000 || r[0] != [2]int{1, 3} || r[99999] != [2]int{1, 4} {
		t.Errorf("of bytes that change: %d runs", len(r))
	}
}

// P8.3: of all short lists, runs are none of 0, no two of one byte one behind the other, and laid out the list.
func TestRunsOfAllShort(t *testing.T) {
	everyBytes("\x00\x7f\xff", 8, func(s string) {
		l := []byte(s)
		var out []byte
		for k, r := range Runs(l) {
			if r[0] < 1 || k > 0 && Runs(l)[k-1][1] == r[1] {
				t.Errorf("Runs(%v) = %v", l, Runs(l))
			}
			out = append(out, bytes.Repeat([]byte{byte(r[1])}, r[0])...)
		}
		if !bytes.Equal(out, l) || string(l) != s {
			t.Errorf("Runs(%v) = %v", l, Runs(l))
		}
	})
}

// changes are modules that differ from the full one in just one part.
func changes() []func(*api.Module) {
	return []func(*api.Module){
		func(m *api.Module) { m.Types[0].Params[0] = 126 },
		func(m *api.Module) { m.Types[0].Params = nil },
		func(m *api.Module) { m.Types[0].Results[0] = 127 },
		func(m *api.Module) { m.Types[0].Params, m.Types[0].Results = m.Types[0].Results, m.Types[0].Params },
		func(m *api.Module) { m.Types[1].Results = []byte{127} },
		func(m *api.Module) { m.Types = m.Types[:1] },
		func(m *api.Module) { m.Types = append(m.Types, api.FuncType{}) },
		func(m *api.Module) { m.Types[0], m.Types[1] = m.Types[1], m.Types[0] },
		func(m *api.Module) { m.Imports[0].Mod = "n" },
		func(m *api.Module) { m.Imports[0].Name = "F" },
		func(m *api.Module) { m.Imports[2].Mod, m.Imports[2].Name = m.Imports[2].Name, m.Imports[2].Mod },
		func(m *api.Module) { m.Imports[1].Kind = 2 },
		func(m *api.Module) { m.Imports[0].Type = 0 },
		func(m *api.Module) { m.Imports[2].Type = 1 },
		func(m *api.Module) { m.Imports[1].Lim.Min = 0 },
		func(m *api.Module) { m.Imports[2].Lim.Max = 0 },
		func(m *api.Module) { m.Imports[2].Lim.HasMax = false },
		func(m *api.Module) { m.Imports[3].Val = 127 },
		func(m *api.Module) { m.Imports[3].Mut = false },
		func(m *api.Module) { m.Imports[0].Mut = true },
		func(m *api.Module) { m.Imports = m.Imports[1:] },
		func(m *api.Module) { m.Imports = nil },
		func(m *api.Module) { m.Funcs[1] = 44 },
		func(m *api.Module) { m.Funcs = append(m.Funcs, 0) },
		func(m *api.Module) { m.Funcs[0], m.Funcs[1] = m.Funcs[1], m.Funcs[0] },
		func(m *api.Module) { m.Tables[0].Min = 4 },
		func(m *api.Module) { m.Tables[0].Max = 3 },
		func(m *api.Module) { m.Tables[0].HasMax = false },
		func(m *api.Module) { m.Tables = nil },
		func(m *api.Module) { m.Tables, m.Mems = m.Mems, m.Tables },
		func(m *api.Module) { m.Mems[0].Min = 0 },
		func(m *api.Module) { m.Mems[0].Max = 1 },
		func(m *api.Module) { m.Mems[1].HasMax = false },
		func(m *api.Module) { m.Mems = m.Mems[:1] },
		func(m *api.Module) { m.Globals[0].Val = 126 },
		func(m *api.Module) { m.Globals[0].Mut = true },
		func(m *api.Module) { m.Globals[0].Init.Op = 66 },
		func(m *api.Module) { m.Globals[0].Init.K = 5 },
		func(m *api.Module) { m.Globals[1].Init.A = 0 },
		func(m *api.Module) { m.Globals[1].Init.B = 1 },
		func(m *api.Module) { m.Globals[1].Init.Labels = []int{0} },
		func(m *api.Module) { m.Globals = m.Globals[1:] },
		func(m *api.Module) { m.Exports[0].Name = "ran" },
		func(m *api.Module) { m.Exports[0].Kind = 1 },
		func(m *api.Module) { m.Exports[1].Index = 0 },
		func(m *api.Module) { m.Exports = m.Exports[:1] },
		func(m *api.Module) { m.Start = -1 },
		func(m *api.Module) { m.Start = 0 },
		func(m *api.Module) { m.Elems[0].Offset.K = 2 },
		func(m *api.Module) { m.Elems[1].Offset.A = 2 },
		func(m *api.Module) { m.Elems[0].Funcs[1] = 201 },
		func(m *api.Module) { m.Elems[0].Funcs = m.Elems[0].Funcs[:1] },
		func(m *api.Module) { m.Elems[1].Funcs = []int{0} },
		func(m *api.Module) { m.Elems = m.Elems[:1] },
		func(m *api.Module) { m.Codes[0].Locals[2] = 127 },
		func(m *api.Module) { m.Codes[0].Locals = m.Codes[0].Locals[1:] },
		func(m *api.Module) { m.Codes[1].Locals = []byte{127} },
		func(m *api.Module) { m.Codes[0].Body[0].A = 127 },
		func(m *api.Module) { m.Codes[0].Body[1].Labels[0] = 1 },
		func(m *api.Module) { m.Codes[0].Body[1].Labels = nil },
		func(m *api.Module) { m.Codes[0].Body = m.Codes[0].Body[:2] },
		func(m *api.Module) { m.Codes[1].Body = []api.Instr{{Op: 1}} },
		func(m *api.Module) { m.Codes = m.Codes[:1] },
		func(m *api.Module) { m.Codes[0], m.Codes[1] = m.Codes[1], m.Codes[0] },
		func(m *api.Module) { m.Datas[0].Offset.K = 0 },
		func(m *api.Module) { m.Datas[0].Bytes[1] = 'o' },
		func(m *api.Module) { m.Datas[0].Bytes = m.Datas[0].Bytes[:1] },
		func(m *api.Module) { m.Datas[1].Bytes = []byte{0} },
		func(m *api.Module) { m.Datas = nil },
		func(m *api.Module) { m.Datas = append(m.Datas, m.Datas[1]) },
	}
}

// P8.3: modules that differ in just one part are not the same.
func TestSame(t *testing.T) {
	_, m := full()
	kept := copied(m)
	if !Same(m, m) || !Same(m, kept) || !Same(kept, m) || !Same(api.Module{}, api.Module{}) {
		t.Error("one is not the same as itself")
	}
	all := changes()
	for k, change := range all {
		x := copied(m)
		change(&x)
		if equal(x, m) {
			t.Errorf("change %d is none", k)
		}
		if Same(x, m) || Same(m, x) || !Same(x, x) || !Same(x, copied(x)) {
			t.Errorf("change %d: %v and %v", k, x, m)
		}
		for n, other := range all {
			y := copied(m)
			other(&y)
			if Same(x, y) != equal(x, y) {
				t.Errorf("changes %d and %d: Same(%v, %v) = %v", k, n, x, y, Same(x, y))
			}
		}
	}
	if !equal(m, kept) {
		t.Errorf("Same changed %v to %v", kept, m)
	}
}

// emptied is a value in which each list without elements is not nil.
func emptied[T any](v T) T {
	out := reflect.New(reflect.TypeFor[T]()).Elem()
	out.Set(reflect.ValueOf(copied(v)))
	fill(out)
	return out.Interface().(T)
}

func fill(v reflect.Value) {
	switch v.Kind() {
	case reflect.Struct:
		for k := range v.NumField() {
			fill(v.Field(k))
		}
	case reflect.Slice:
		if v.Len() == 0 {
			v.Set(reflect.MakeSlice(v.Type(), 0, 3))
		}
		for k := range v.Len() {
			fill(v.Index(k))
		}
	}
}

// P8.3, R3: a list without elements may be nil or not.
func TestNilOrEmpty(t *testing.T) {
	_, m := full()
	for _, x := range []api.Module{m, {Start: -1}, {}, coded(api.Code{}), {Start: -1, Elems: []api.Elem{{Offset: zero32}}, Datas: []api.Data{{Offset: zero32}}, Types: make([]api.FuncType, 2)}} {
		e := emptied(x)
		if reflect.DeepEqual(e, x) || !equal(e, x) {
			t.Fatal("nothing is emptied")
		}
		if !Same(x, e) || !Same(e, x) || !Same(e, e) {
			t.Errorf("%v: nil and empty are not the same", x)
		}
		b, f := Encode(x)
		c, g := Encode(e)
		if !bytes.Equal(b, c) || f != api.OK || g != api.OK || !Sane(e) {
			t.Errorf("%v: %q, %d and %q, %d", x, b, f, c, g)
		}
	}
}

// P8.3: the types of all functions, imported first, and how many of a kind there are.
func TestFuncsAndCount(t *testing.T) {
	f := func(n int) api.Import { return api.Import{Kind: 0, Type: n} }
	other := []api.Import{{Kind: 1, Type: 91}, {Kind: 2, Type: 92}, {Kind: 3, Type: 93}, {Kind: 4, Type: 94}, {Kind: -1, Type: 95}, {Kind: 256, Type: 96}, {Kind: 1 << 32, Type: 97}, {Kind: math.MinInt, Type: 98}}
	for _, x := range []struct {
		m     api.Module
		funcs []int
		n     [4]int
	}{
		{api.Module{}, nil, [4]int{}},
		{api.Module{Funcs: []int{5, 6}}, []int{5, 6}, [4]int{2}},
		{api.Module{Imports: []api.Import{f(3)}}, []int{3}, [4]int{1}},
		{api.Module{Imports: []api.Import{f(3), f(3), f(0)}, Funcs: []int{7, 0}}, []int{3, 3, 0, 7, 0}, [4]int{5}},
		{api.Module{Imports: slices.Concat(other, []api.Import{f(-4)}, other, []api.Import{f(math.MaxInt)}, other), Funcs: []int{math.MinInt}}, []int{-4, math.MaxInt, math.MinInt}, [4]int{3, 3, 3, 3}},
		{api.Module{Imports: other, Tables: make([]api.Limits, 2), Mems: make([]api.Limits, 3), Globals: make([]api.GlobalDef, 4), Exports: make([]api.Export, 9), Codes: make([]api.Code, 8)}, nil, [4]int{0, 3, 4, 5}},
		{api.Module{Tables: make([]api.Limits, 1)}, nil, [4]int{0, 1}},
		{api.Module{Mems: make([]api.Limits, 1)}, nil, [4]int{0, 0, 1}},
		{api.Module{Globals: make([]api.GlobalDef, 1)}, nil, [4]int{0, 0, 0, 1}},
		{api.Module{Funcs: make([]int, 1000), Imports: make([]api.Import, 1000)}, make([]int, 2000), [4]int{2000}},
	} {
		if l := Funcs(x.m); !slices.Equal(l, x.funcs) {
			t.Errorf("Funcs(%.300v) = %v; want %v", x.m, l, x.funcs)
		}
		for kind, n := range x.n {
			if got := Count(x.m, kind); got != n {
				t.Errorf("Count(%.300v, %d) = %d; want %d", x.m, kind, got, n)
			}
		}
		for _, kind := range []int{-1, -2, 4, 5, 127, 255, 256, 259, -256, 1 << 32, 1<<32 + 3, math.MinInt, math.MaxInt} {
			if n := Count(x.m, kind); n != 0 {
				t.Errorf("Count(%.300v, %d) = %d", x.m, kind, n)
			}
		}
	}
	_, m := full()
	if l := Funcs(m); !slices.Equal(l, []int{1, 0, 300}) || Count(m, 0) != 3 || Count(m, 1) != 2 || Count(m, 2) != 3 || Count(m, 3) != 4 {
		t.Errorf("%v, %d, %d, %d, %d", l, Count(m, 0), Count(m, 1), Count(m, 2), Count(m, 3))
	}
}

// P1, P8.4: whatever the numbers, lists and bytes: nothing panics, and what is Sane comes back.
func TestOfWildModules(t *testing.T) {
	for _, x := range []api.Module{
		{Types: make([]api.FuncType, 100000)}, {Imports: make([]api.Import, 100000)}, {Funcs: make([]int, 100000), Codes: make([]api.Code, 100000)}, {Datas: make([]api.Data, 100000)},
		{Start: math.MinInt}, {Start: math.MaxInt}, {Exports: []api.Export{{Kind: math.MinInt, Index: math.MinInt}}}, {Imports: []api.Import{{Kind: math.MaxInt, Type: math.MinInt}}},
		{Elems: []api.Elem{{Funcs: make([]int, 100000)}}}, {Tables: []api.Limits{{Min: math.MinInt, Max: math.MaxInt}}}, {Globals: []api.GlobalDef{{Init: api.Instr{Op: math.MinInt, A: math.MaxInt, B: math.MinInt, K: math.MaxUint64, Labels: make([]int, 1000)}}}},
		coded(api.Code{Locals: make([]byte, 1<<20)}), coded(api.Code{Body: make([]api.Instr, 100000)}), coded(api.Code{Body: slices.Repeat([]api.Instr{{Op: 2}}, 4096)}), {Exports: []api.Export{{Name: strings.Repeat("x", 1<<24)}}},
	} {
		encodeHeld(t, x)
		_, _, _ = Funcs(x), Count(x, 0), Count(x, math.MinInt)
		if !Same(x, x) {
			t.Errorf("%.300v is not the same as itself", x)
		}
	}
}

// withRoom is a list with room behind it, and all of the memory that it lies in.
func withRoom[T any](l []T, behind T) ([]T, []T) {
	all := append(slices.Clone(l), slices.Repeat([]T{behind}, 20)...)
	return all[:len(l)], all
}

// R3: the bytes that are decoded are not changed, also in the room behind them; nor is what is told changed with them.
func TestDecodeChangesNothing(t *testing.T) {
	parts, want := full()
	for _, s := range []string{string(module(parts...)), string(module()), string(module(section(1, "\x41"))), string(module(section(11, "\x01\x00\x41\x00\x0b\x01"))), string(module(section(3, "\x01\x00"))), ""} {
		b, all := withRoom([]byte(s), 0xee)
		kept := bytes.Clone(all)
		m, _ := Decode(b)
		scratch(reflect.ValueOf(&m).Elem())
		if !bytes.Equal(all, kept) {
			t.Errorf("Decode of %q changed %v to %v", s, kept, all)
		}
	}
	b := module(parts...)
	m, _ := Decode(b)
	clear(b)
	if !equal(m, want) {
		t.Errorf("what is decoded hangs on the bytes: %v", m)
	}
}

// scratch writes over all lists of a value, and over the room behind them.
func scratch(v reflect.Value) {
	switch v.Kind() {
	case reflect.Struct:
		for k := range v.NumField() {
			scratch(v.Field(k))
		}
	case reflect.Slice:
		for k := range v.Len() {
			scratch(v.Index(k))
		}
		whole := v.Slice(0, v.Cap())
		for k := range whole.Len() {
			whole.Index(k).SetZero()
		}
	}
}

// memory is where a list lies, with the room behind it.
type memory struct{ from, behind uintptr }

// memoriesOf are those of all lists of a value.
func memoriesOf(v reflect.Value) []memory {
	var l []memory
	switch v.Kind() {
	case reflect.Struct:
		for k := range v.NumField() {
			l = append(l, memoriesOf(v.Field(k))...)
		}
	case reflect.Slice:
		if v.Cap() > 0 {
			l = append(l, memory{v.Pointer(), v.Pointer() + uintptr(v.Cap())*v.Type().Elem().Size()})
		}
		for k := range v.Len() {
			l = append(l, memoriesOf(v.Index(k))...)
		}
	}
	return l
}

// R3: no two lists of one answer share memory, also not the room behind them; nor do two answers, nor an answer and the bytes.
func TestDecodeIsNewMemory(t *testing.T) {
	parts, want := full()
	parts[8] = section(9, "\x02\x00\x41\x00\x0b\x02\x01\x02\x00\x41\x00\x0b\x02\x03\x04")
	parts[9] = section(10, "\x02\x0a\x02\x02\x7f\x02\x7e\x0e\x01\x00\x01\x0b", "\x0a\x02\x02\x7f\x02\x7e\x0e\x01\x00\x01\x0b")
	parts[10] = section(11, "\x03\x00\x41\x00\x0b\x02ab\x00\x41\x00\x0b\x03cde\x00\x41\x00\x0b\x01f")
	code := api.Code{Locals: []byte{127, 127, 126, 126}, Body: []api.Instr{{Op: 14, A: 1, Labels: []int{0}}}}
	want.Elems = []api.Elem{{Offset: zero32, Funcs: []int{1, 2}}, {Offset: zero32, Funcs: []int{3, 4}}}
	want.Codes = []api.Code{code, code}
	want.Datas = []api.Data{{Offset: zero32, Bytes: []byte("ab")}, {Offset: zero32, Bytes: []byte("cde")}, {Offset: zero32, Bytes: []byte("f")}}
	b := module(parts...)
	first, _ := Decode(b)
	second, _ := Decode(b)
	if !equal(first, want) || !equal(second, want) {
		t.Fatal(first, second)
	}
	all := slices.Concat(memoriesOf(reflect.ValueOf(b)), memoriesOf(reflect.ValueOf(first)), memoriesOf(reflect.ValueOf(second)))
	for k, x := range all {
		for _, y := range all[:k] {
			if x.from < y.behind && y.from < x.behind {
				t.Errorf("%v and %v share memory", x, y)
			}
		}
	}
	if len(all) < 40 {
		t.Errorf("just %d lists", len(all))
	}
	scratch(reflect.ValueOf(&second).Elem())
	if !equal(first, want) {
		t.Errorf("two answers share memory: %v", first)
	}
}

// P1: what a panic tells is an error, whatever is thrown.
func TestTold(t *testing.T) {
	for _, x := range []struct {
		f any
		e api.Errno
	}{{nil, api.OK}, {fault{api.ErrShort}, api.ErrShort}, {fault{api.ErrType}, api.ErrType}, {"else", api.ErrForm}, {api.ErrLimit, api.ErrForm}} {
		if e := told(x.f); e != x.e {
			t.Errorf("told(%v) = %d; want %d", x.f, e, x.e)
		}
	}
}

// R3: what Encode, Runs and Funcs are handed is not changed, also in the room behind it, and what they answer shares nothing with it.
func TestOthersChangeNothing(t *testing.T) {
	_, m := full()
	want, _ := Encode(m)
	var rooms, kept []any
	room := func(all any) {
		rooms = append(rooms, all)
		kept = append(kept, deep(reflect.ValueOf(all)).Interface())
	}
	add := func(l, all []byte) []byte { room(all); return l }
	ints := func(l, all []int) []int { room(all); return l }
	m.Types[0].Params = add(withRoom(m.Types[0].Params, 0xee))
	m.Codes[0].Locals = add(withRoom(m.Codes[0].Locals, 0xee))
	m.Datas[0].Bytes = add(withRoom(m.Datas[0].Bytes, 0xee))
	m.Elems[0].Funcs = ints(withRoom(m.Elems[0].Funcs, 77))
	m.Funcs = ints(withRoom(m.Funcs, 77))
	m.Codes[0].Body[1].Labels = ints(withRoom(m.Codes[0].Body[1].Labels, 77))
	body, bodies := withRoom(m.Codes[0].Body, api.Instr{Op: 9})
	m.Codes[0].Body = body
	room(bodies)
	imports, all := withRoom(m.Imports, api.Import{Mod: "behind"})
	m.Imports = imports
	room(all)
	for _, x := range []api.Module{m, {Start: -2, Types: m.Types, Codes: m.Codes, Funcs: m.Funcs}, {Start: -1, Imports: m.Imports, Elems: m.Elems, Datas: m.Datas, Funcs: m.Funcs}} {
		b, _ := Encode(x)
		_ = append(b, 1, 2, 3)
		clear(b)
		l := Funcs(x)
		_ = append(l, 1, 2, 3)
		clear(l)
		r := Runs(m.Codes[0].Locals)
		_ = append(r, [2]int{1, 2})
		clear(r)
		Sane(x)
		Same(x, m)
		Count(x, 0)
	}
	for k := range rooms {
		if !reflect.DeepEqual(rooms[k], kept[k]) {
			t.Errorf("%v is changed to %v", kept[k], rooms[k])
		}
	}
	got, e := Encode(m)
	again, _ := Encode(m)
	clear(again)
	if !bytes.Equal(got, want) || e != api.OK {
		t.Errorf("Encode = %q, %d; want %q", got, e, want)
	}
	alone := api.Module{Start: -1, Funcs: []int{1, 2}}
	clear(Funcs(alone))
	if !slices.Equal(alone.Funcs, []int{1, 2}) {
		t.Error("Funcs answers what it was handed")
	}
	scratch(reflect.ValueOf(&m).Elem())
	if !bytes.Equal(got, want) {
		t.Errorf("what is encoded hangs on the module: %q", got)
	}
}

// What is answered hangs on nothing that was asked before: also after errors.
func TestNothingIsKept(t *testing.T) {
	parts, m := full()
	good := module(parts...)
	first, _ := Decode(good)
	bytesOf, _ := Encode(m)
	for _, b := range [][]byte{module(section(1, "\x41")), module(section(9, "\x01\x01")), nil, module(section(3, "\x01\x07")), withCode("\x01\x40\x7f\x0b"), good, module(section(8, "\x09"))} {
		x, _ := Decode(b)
		_, _ = Encode(x)
		_, _ = Encode(api.Module{Start: -2})
		_, _, _ = Sane(x), Runs(b), Funcs(x)
	}
	again, e := Decode(good)
	b, f := Encode(m)
	if !equal(first, m) || !equal(again, m) || e != api.OK || !bytes.Equal(bytesOf, good) || !bytes.Equal(b, good) || f != api.OK {
		t.Errorf("%v, %d, %q, %d", again, e, b, f)
	}
	if x, e := Decode(module()); !equal(x, api.Module{Start: -1}) || e != api.OK {
		t.Errorf("%v, %d", x, e)
	}
}

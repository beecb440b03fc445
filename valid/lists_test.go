package valid

import (
	"bytes"
	"math"
	"slices"
	"testing"

	"avocet/api"
	"avocet/check"
)

// wild are numbers that are below 0, or very great.
func wild() []int {
	return []int{-1, -2, math.MinInt, math.MinInt + 1, math.MinInt32, 1 << 31, 1<<32 - 1, 1 << 32, 1<<32 + 1, math.MaxInt - 1, math.MaxInt}
}

// P11.1: the types of all globals, the imported ones first.
func TestGlobals(t *testing.T) {
	in := func(v byte, mut bool) api.Import { return api.Import{Kind: 3, Val: v, Mut: mut} }
	own := func(v byte, mut bool) api.GlobalDef { return api.GlobalDef{Val: v, Mut: mut, Init: i32(7)} }
	others := []api.Import{{Kind: 0, Val: 127}, {Kind: 1, Val: 126, Mut: true}, {Kind: 2}, {Kind: -1, Val: 127}, {Kind: 4, Val: 127}, {Kind: 259, Val: 127}, {Kind: 1<<32 + 3}}
	for _, x := range []struct {
		m     api.Module
		right []check.Glob
	}{
		{api.Module{}, nil},
		{api.Module{Imports: others, Tables: make([]api.Limits, 2), Mems: make([]api.Limits, 3), Funcs: []int{1}}, nil},
		{api.Module{Imports: []api.Import{in(127, true)}}, []check.Glob{{Val: 127, Mut: true}}},
		{api.Module{Imports: slices.Concat(others, []api.Import{in(126, false)}, others, []api.Import{in(127, false), in(126, true)}, others)}, []check.Glob{{Val: 126}, {Val: 127}, {Val: 126, Mut: true}}},
		{api.Module{Globals: []api.GlobalDef{own(127, true), own(127, false), own(126, false)}}, []check.Glob{{Val: 127, Mut: true}, {Val: 127}, {Val: 126}}},
		{api.Module{Imports: slices.Concat(others, []api.Import{in(127, false)}), Globals: []api.GlobalDef{own(126, true)}}, []check.Glob{{Val: 127}, {Val: 126, Mut: true}}},
		{api.Module{Imports: []api.Import{in(0, true), in(255, false)}, Globals: []api.GlobalDef{own(0, false), own(5, true)}}, []check.Glob{{Mut: true}, {Val: 255}, {}, {Val: 5, Mut: true}}},
		{full(), []check.Glob{{Val: 127}, {Val: 126, Mut: true}, {Val: 126}, {Val: 127}, {Val: 126, Mut: true}, {Val: 126}, {Val: 127, Mut: true}}},
	} {
		if got := Globals(x.m); !slices.Equal(got, x.right) {
			t.Errorf("Globals(%v) = %v; want %v", x.m, got, x.right)
		}
	}
}

// P11.1: the limits of all tables, and of all memories, the imported ones first.
func TestTablesAndMemories(t *testing.T) {
	a, b, c, d := api.Limits{Min: 1}, api.Limits{Min: 2, Max: 3, HasMax: true}, api.Limits{Min: 5, Max: -4, HasMax: true}, api.Limits{Min: math.MaxInt, Max: 6}
	in := func(kind int, l api.Limits) api.Import { return api.Import{Kind: kind, Lim: l} }
	others := []api.Import{in(0, a), in(3, b), in(-1, c), in(4, d), in(257, a), in(258, a), in(1<<32+1, a), in(1<<32+2, a), in(math.MinInt, a)}
	for _, x := range []struct {
		m                api.Module
		tables, memories []api.Limits
	}{
		{api.Module{}, nil, nil},
		{api.Module{Imports: others, Globals: make([]api.GlobalDef, 3), Funcs: []int{1}}, nil, nil},
		{api.Module{Imports: []api.Import{in(1, b)}}, []api.Limits{b}, nil},
		{api.Module{Imports: []api.Import{in(2, b)}}, nil, []api.Limits{b}},
		{api.Module{Imports: slices.Concat(others, []api.Import{in(2, a), in(1, c)}, others, []api.Import{in(1, d), in(2, b), in(1, a)}, others)}, []api.Limits{c, d, a}, []api.Limits{a, b}},
		{api.Module{Tables: []api.Limits{a, b}}, []api.Limits{a, b}, nil},
		{api.Module{Mems: []api.Limits{c, b, a}}, nil, []api.Limits{c, b, a}},
		{api.Module{Tables: []api.Limits{d}, Mems: []api.Limits{a}}, []api.Limits{d}, []api.Limits{a}},
		{api.Module{Imports: []api.Import{in(1, a)}, Mems: []api.Limits{b}}, []api.Limits{a}, []api.Limits{b}},
		{api.Module{Imports: slices.Concat([]api.Import{in(1, a), in(2, b)}, others, []api.Import{in(1, c)}), Tables: []api.Limits{d, b}, Mems: []api.Limits{c}}, []api.Limits{a, c, d, b}, []api.Limits{b, c}},
		{full(), []api.Limits{{Min: 3}}, []api.Limits{{Min: 1, Max: 2, HasMax: true}}},
	} {
		if got := Tables(x.m); !slices.Equal(got, x.tables) {
			t.Errorf("Tables(%v) = %v; want %v", x.m, got, x.tables)
		}
		if got := Memories(x.m); !slices.Equal(got, x.memories) {
			t.Errorf("Memories(%v) = %v; want %v", x.m, got, x.memories)
		}
	}
}

// P11.1: constants are of their own type alone, whatever else stands in them.
func TestConstOfConstants(t *testing.T) {
	for _, m := range []api.Module{{}, full(), other()} {
		for v := range 256 {
			for _, x := range []struct {
				op int
				of byte
			}{{65, 127}, {66, 126}} {
				right := api.ErrType
				if byte(v) == x.of {
					right = api.OK
				}
				for _, n := range append(wild(), 0, 1) {
					if e := Const(m, api.Instr{Op: x.op, A: n, B: n, K: uint64(n)}, byte(v)); e != right {
						t.Errorf("Const of %d as %d = %d; want %d", x.op, v, e, right)
					}
				}
			}
		}
	}
}

// P11.1: a global is an imported one, that isn't Mut, and of the type.
func TestConstOfGlobals(t *testing.T) {
	m := full()
	for _, x := range []struct {
		n    int
		t    byte
		want api.Errno
	}{
		{0, 127, api.OK}, {0, 126, api.ErrType}, {0, 0, api.ErrType}, {0, 255, api.ErrType}, {2, 126, api.OK}, {2, 127, api.ErrType}, {2, 125, api.ErrType},
		{1, 126, api.ErrType}, {1, 127, api.ErrType}, {1, 0, api.ErrType},
		{3, 127, api.ErrName}, {3, 126, api.ErrName}, {4, 126, api.ErrName}, {5, 126, api.ErrName}, {6, 127, api.ErrName}, {7, 127, api.ErrName}, {8, 0, api.ErrName}, {64, 127, api.ErrName},
	} {
		if e := Const(m, global(x.n), x.t); e != x.want {
			t.Errorf("Const of the global %d as %d = %d; want %d", x.n, x.t, e, x.want)
		}
	}
	for _, m := range []api.Module{m, other(), {}} {
		for _, n := range wild() {
			for _, v := range []byte{127, 126, 0} {
				if e := Const(m, global(n), v); e != api.ErrName {
					t.Errorf("Const of the global %d as %d = %d", n, v, e)
				}
			}
		}
		if e := Const(other(), global(0), 126); e != api.ErrName {
			t.Errorf("Const of its own global = %d", e)
		}
	}
	odd := api.Module{Imports: []api.Import{{Kind: 3}, {Kind: 3, Val: 5, Mut: true}, {Kind: 7, Val: 127}}}
	for n, right := range []api.Errno{api.OK, api.ErrType, api.ErrName} {
		if e := Const(odd, global(n), byte(5*n)); e != right {
			t.Errorf("Const of the global %d of a type that is none = %d; want %d", n, e, right)
		}
	}
}

// P11.1: of no other code an expression may be.
func TestConstOfOthers(t *testing.T) {
	m := full()
	for _, op := range append(wild(), 256+35, 256+65, 256+66, 1<<32+65) {
		for _, v := range []byte{0, 126, 127} {
			if e := Const(m, api.Instr{Op: op}, v); e != api.ErrType {
				t.Errorf("Const of the code %d as %d = %d", op, v, e)
			}
		}
	}
	for op := -300; op < 600; op++ {
		for v := range 256 {
			for n := -1; n <= 7; n++ {
				i := api.Instr{Op: op, A: n}
				if e, right := Const(m, i, byte(v)), constByWords(m, i, byte(v)); e != right || e != api.ErrType && op != 35 && op != 65 && op != 66 {
					t.Fatalf("Const of %v as %d = %d; want %d", i, v, e, right)
				}
			}
		}
	}
}

// P11.1: what each of a module's own functions may name.
func TestEnv(t *testing.T) {
	m := full()
	for f, x := range []struct{ locals, results string }{{"il", "i"}, {"", ""}, {"liil", "l"}} {
		e, ok := Env(m, f)
		right := check.Env{
			Types: []api.FuncType{{}, fn("i", "i"), fn("li", "l")}, Funcs: []int{1, 0, 1, 0, 2}, Tables: 1, Mems: 1,
			Globals: []check.Glob{{Val: 127}, {Val: 126, Mut: true}, {Val: 126}, {Val: 127}, {Val: 126, Mut: true}, {Val: 126}, {Val: 127, Mut: true}},
			Locals:  vals(x.locals), Results: vals(x.results),
		}
		if !ok || !equal(e, right) {
			t.Errorf("Env of %d = %v, %v; want %v", f, e, ok, right)
		}
	}
	for _, f := range append(wild(), 3, 4, 5, -3, -4, -5) {
		noEnv(t, m, f)
	}
	e, ok := Env(other(), 2)
	if !ok || !slices.Equal(e.Funcs, []int{1, 0, 2}) || e.Tables != 1 || e.Mems != 1 || len(e.Globals) != 2 {
		t.Errorf("%v, %v", e, ok)
	}
	bare := api.Module{Types: []api.FuncType{{}}, Funcs: []int{0}, Codes: make([]api.Code, 1)}
	if e, ok := Env(bare, 0); !ok || !equal(e, check.Env{Types: bare.Types, Funcs: bare.Funcs}) {
		t.Errorf("%v, %v", e, ok)
	}
	noEnv(t, api.Module{}, 0)
	noEnv(t, api.Module{Imports: []api.Import{{}}, Types: make([]api.FuncType, 1)}, 0)
}

// noEnv asks that a function has none, and that nothing is told of it.
func noEnv(t *testing.T, m api.Module, f int) {
	t.Helper()
	if e, ok := Env(m, f); ok || !equal(e, check.Env{}) {
		t.Errorf("Env of %d = %v, %v", f, e, ok)
	}
}

// P11.1: there is no Env of a function without a type, or without a Code; all else of the module is not asked for.
func TestEnvOfModulesThatMayNotBe(t *testing.T) {
	for _, n := range append(wild(), 3) {
		m := full()
		m.Funcs[1] = n
		noEnv(t, m, 1)
		for _, f := range []int{0, 2} {
			if e, ok := Env(m, f); !ok || e.Funcs[3] != n {
				t.Errorf("Env of %d = %v, %v", f, e, ok)
			}
		}
		held(t, m)
	}
	m := full()
	m.Codes = m.Codes[:1]
	noEnv(t, m, 1)
	noEnv(t, m, 2)
	held(t, m)
	m.Codes = make([]api.Code, 9)
	for f := 3; f < 9; f++ {
		noEnv(t, m, f)
	}
	held(t, m)
	m.Codes = nil
	noEnv(t, m, 0)
	m = full()
	m.Types = m.Types[:1]
	noEnv(t, m, 0)
	held(t, m)

	m = full()
	m.Types[2] = api.FuncType{Params: vals("i5?"), Results: vals("?il")}
	m.Codes[2].Locals = bytes.Repeat(vals("7"), 1000)
	m.Imports = append(m.Imports, api.Import{Type: -5}, api.Import{Kind: 9, Type: 1}, api.Import{Kind: 1}, api.Import{Kind: 2}, api.Import{Kind: 3, Val: 4})
	m.Tables, m.Mems = make([]api.Limits, 300), make([]api.Limits, 400)
	e, ok := Env(m, 2)
	if !ok || string(e.Locals) != string(vals("i5?"))+string(m.Codes[2].Locals) || string(e.Results) != string(vals("?il")) || e.Tables != 301 || e.Mems != 402 || !slices.Equal(e.Funcs, []int{1, 0, -5, 1, 0, 2}) {
		t.Errorf("%v, %v", e, ok)
	}
	held(t, m)
}

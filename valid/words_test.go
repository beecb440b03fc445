package valid

import (
	"bytes"
	"fmt"
	"reflect"
	"slices"
	"strconv"
	"strings"
	"testing"

	"avocet/api"
	"avocet/check"
	"avocet/module"
)

// Here stands the chapter written out once more, word by word, so that it shares nothing with what it is held against.

func globalsByWords(m api.Module) (all, imported []check.Glob) {
	for _, i := range m.Imports {
		if i.Kind == 3 {
			imported = append(imported, check.Glob{Val: i.Val, Mut: i.Mut})
		}
	}
	all = slices.Clone(imported)
	for _, g := range m.Globals {
		all = append(all, check.Glob{Val: g.Val, Mut: g.Mut})
	}
	return all, imported
}

func limitsByWords(m api.Module) (tables, memories []api.Limits) {
	for _, i := range m.Imports {
		switch i.Kind {
		case 1:
			tables = append(tables, i.Lim)
		case 2:
			memories = append(memories, i.Lim)
		}
	}
	return slices.Concat(tables, m.Tables), slices.Concat(memories, m.Mems)
}

func funcsByWords(m api.Module) (types []int, imported int) {
	for _, i := range m.Imports {
		if i.Kind == 0 {
			types = append(types, i.Type)
		}
	}
	return slices.Concat(types, m.Funcs), len(types)
}

func constByWords(m api.Module, i api.Instr, t byte) api.Errno {
	switch {
	case i.Op == 65 && t == 127 || i.Op == 66 && t == 126:
		return 0
	case i.Op != 35:
		return 5
	}
	_, imported := globalsByWords(m)
	if i.A < 0 || i.A >= len(imported) {
		return 6
	}
	if imported[i.A].Mut {
		return 5
	}
	if imported[i.A].Val != t {
		return 5
	}
	return 0
}

func envByWords(m api.Module, f int) (check.Env, bool) {
	if f < 0 || f >= len(m.Funcs) {
		return check.Env{}, false
	}
	if m.Funcs[f] < 0 || m.Funcs[f] >= len(m.Types) || f >= len(m.Codes) {
		return check.Env{}, false
	}
	t := m.Types[m.Funcs[f]]
	e := check.Env{Types: m.Types, Locals: slices.Concat(t.Params, m.Codes[f].Locals), Results: t.Results}
	e.Funcs, _ = funcsByWords(m)
	tables, memories := limitsByWords(m)
	e.Tables, e.Mems = len(tables), len(memories)
	e.Globals, _ = globalsByWords(m)
	return e, true
}

// countByWords is how many functions, tables, memories and globals there are.
func countByWords(m api.Module) [4]int {
	funcs, _ := funcsByWords(m)
	tables, memories := limitsByWords(m)
	globals, _ := globalsByWords(m)
	return [4]int{len(funcs), len(tables), len(memories), len(globals)}
}

// validByWords is Valid, word by word of P11.2.
func validByWords(m api.Module) api.Errno {
	if !module.Sane(m) {
		return 1
	}
	for _, f := range []func(api.Module) api.Errno{typesByWords, roomByWords, exportsByWords, startByWords, segmentsByWords, codesByWords} {
		if e := f(m); e != 0 {
			return e
		}
	}
	return 0
}

func typesByWords(m api.Module) api.Errno {
	funcs, _ := funcsByWords(m)
	for _, t := range funcs {
		if t >= len(m.Types) {
			return 6
		}
	}
	return 0
}

// roomByWords is about tables, memories, and globals.
func roomByWords(m api.Module) api.Errno {
	tables, memories := limitsByWords(m)
	for _, l := range tables {
		if l.HasMax && l.Max < l.Min {
			return 5
		}
		if l.Min > 256 {
			return 4
		}
	}
	for _, l := range memories {
		if l.HasMax && l.Max < l.Min {
			return 5
		}
		if l.Min > 65536 || l.HasMax && l.Max > 65536 {
			return 5
		}
		if l.Min > 4 {
			return 4
		}
	}
	if len(tables) > 1 || len(memories) > 1 {
		return 5
	}
	for _, g := range m.Globals {
		if e := constByWords(m, g.Init, g.Val); e != 0 {
			return e
		}
	}
	return 0
}

func exportsByWords(m api.Module) api.Errno {
	for k, x := range m.Exports {
		if x.Index >= countByWords(m)[x.Kind] {
			return 6
		}
		for _, y := range m.Exports[:k] {
			if x.Name == y.Name {
				return 5
			}
		}
	}
	return 0
}

func startByWords(m api.Module) api.Errno {
	funcs, _ := funcsByWords(m)
	if m.Start == -1 {
		return 0
	}
	if m.Start >= len(funcs) {
		return 6
	}
	if t := m.Types[funcs[m.Start]]; len(t.Params) > 0 || len(t.Results) > 0 {
		return 5
	}
	return 0
}

func segmentsByWords(m api.Module) api.Errno {
	n := countByWords(m)
	for _, x := range m.Elems {
		if n[1] == 0 {
			return 6
		}
		if e := constByWords(m, x.Offset, 127); e != 0 {
			return e
		}
		for _, f := range x.Funcs {
			if f >= n[0] {
				return 6
			}
		}
	}
	for _, d := range m.Datas {
		if n[2] == 0 {
			return 6
		}
		if e := constByWords(m, d.Offset, 127); e != 0 {
			return e
		}
	}
	return 0
}

func codesByWords(m api.Module) api.Errno {
	for f, c := range m.Codes {
		e, _ := envByWords(m, f)
		if len(e.Locals) > 64 {
			return 4
		}
		if e := check.Body(e, c.Body); e != 0 {
			return e
		}
	}
	return 0
}

// with is a module of nothing, with something changed.
func with(change func(*api.Module)) api.Module {
	m := api.Module{Start: -1}
	change(&m)
	return m
}

// vals are types, a letter each: i and l are I32 and I64; all else stands for itself, and is none.
func vals(text string) []byte {
	return []byte(strings.NewReplacer("i", "\x7f", "l", "\x7e").Replace(text))
}

func fn(params, results string) api.FuncType {
	return api.FuncType{Params: vals(params), Results: vals(results)}
}

func i32(k uint64) api.Instr { return api.Instr{Op: 65, K: k} }
func i64(k uint64) api.Instr { return api.Instr{Op: 66, K: k} }

// global is a global.get.
func global(n int) api.Instr { return api.Instr{Op: 35, A: n} }

// full is a module with something of everything in it, its memory imported. Of its functions and globals, 0 and 1, and 0 to 2, are imported.
func full() api.Module {
	return api.Module{
		Types: []api.FuncType{fn("", ""), fn("i", "i"), fn("li", "l")},
		Imports: []api.Import{
			{Mod: "m", Name: "f", Type: 1}, {Mod: "m", Name: "g", Kind: 3, Val: 127}, {Mod: "m", Name: "mem", Kind: 2, Lim: api.Limits{Min: 1, Max: 2, HasMax: true}},
			{Mod: "m", Name: "h", Kind: 3, Val: 126, Mut: true}, {Mod: "m", Name: "k"}, {Mod: "m", Name: "c", Kind: 3, Val: 126},
		},
		Funcs:   []int{1, 0, 2},
		Tables:  []api.Limits{{Min: 3}},
		Globals: []api.GlobalDef{{Val: 127, Init: global(0)}, {Val: 126, Mut: true, Init: i64(9)}, {Val: 126, Init: global(2)}, {Val: 127, Mut: true, Init: i32(1)}},
		Exports: []api.Export{{Name: "run", Index: 2}, {Name: "mem", Kind: 2}, {Name: "tab", Kind: 1}, {Name: "g", Kind: 3, Index: 6}, {Index: 1}},
		Start:   3,
		Elems:   []api.Elem{{Offset: global(0), Funcs: []int{0, 4}}, {Offset: i32(1)}},
		Codes: []api.Code{
			{Locals: vals("l"), Body: []api.Instr{{Op: 32}, {Op: 16}}},
			{Body: []api.Instr{i32(0), i32(0), {Op: 40}, {Op: 54}}},
			{Locals: vals("il"), Body: []api.Instr{{Op: 32, A: 3}, {Op: 35, A: 1}, {Op: 124}}},
		},
		Datas: []api.Data{{Offset: i32(0), Bytes: []byte("hi")}, {Offset: global(0)}},
	}
}

// other is one whose table is imported, and the memory its own; nothing else is imported.
func other() api.Module {
	m := full()
	m.Imports = []api.Import{{Name: "t", Kind: 1, Lim: api.Limits{Min: 256, Max: 1<<32 - 1, HasMax: true}}}
	m.Tables, m.Mems = nil, []api.Limits{{Min: 4, Max: 65536, HasMax: true}}
	m.Globals = []api.GlobalDef{{Val: 126, Init: i64(1<<64 - 1)}, {Val: 127, Mut: true, Init: i32(1<<32 - 1)}}
	m.Exports = []api.Export{{Name: "a", Index: 2}, {Name: "b", Kind: 1}, {Name: "A", Kind: 2}, {Name: "", Kind: 3, Index: 1}}
	m.Start = 1
	m.Elems = []api.Elem{{Offset: i32(1<<32 - 1), Funcs: []int{2, 0, 2}}}
	m.Datas = []api.Data{{Offset: i32(1<<32 - 1), Bytes: []byte("x")}}
	m.Codes[2].Body[1].A = 0
	return m
}

// cloned is a value that shares nothing with that one, and in which all lists without elements are nil.
func cloned[T any](v T) T { return deep(reflect.ValueOf(v)).Interface().(T) }

func deep(v reflect.Value) reflect.Value {
	out := reflect.New(v.Type()).Elem()
	switch v.Kind() {
	case reflect.Struct:
		for k := range v.NumField() {
			out.Field(k).Set(deep(v.Field(k)))
		}
	case reflect.Slice:
		if v.Len() > 0 {
			out.Set(reflect.MakeSlice(v.Type(), v.Len(), v.Len()))
		}
		for k := range v.Len() {
			out.Index(k).Set(deep(v.Index(k)))
		}
	default:
		out.Set(v)
	}
	return out
}

// equal holds two values against each other, part by part.
func equal[T any](a, b T) bool { return reflect.DeepEqual(cloned(a), cloned(b)) }

// short is how a thing looks, or how it begins.
func short(x any) string {
	text := fmt.Sprintf("%v", x)
	if b, ok := x.([]byte); ok {
		text = strconv.Quote(string(b))
	}
	return text[:min(len(text), 900)]
}

// held holds all that is told of a module against the words, and tells what Valid does.
func held(t *testing.T, m api.Module) api.Errno {
	t.Helper()
	e, right := Valid(m), validByWords(m)
	if e != right {
		t.Errorf("Valid(%s) = %d; want %d", short(m), e, right)
	}
	globals, _ := globalsByWords(m)
	tables, memories := limitsByWords(m)
	if !slices.Equal(Globals(m), globals) || !slices.Equal(Tables(m), tables) || !slices.Equal(Memories(m), memories) {
		t.Errorf("of %s: %v, %v, %v; want %v, %v, %v", short(m), Globals(m), Tables(m), Memories(m), globals, tables, memories)
	}
	for f := -1; f <= max(len(m.Funcs), len(m.Codes)); f++ {
		heldEnv(t, m, f)
	}
	return e
}

// heldEnv holds an Env against the words.
func heldEnv(t *testing.T, m api.Module, f int) {
	t.Helper()
	e, ok := Env(m, f)
	right, is := envByWords(m, f)
	if ok != is || !equal(e, right) {
		t.Errorf("Env(%s, %d) = %v, %v; want %v, %v", short(m), f, e, ok, right, is)
	}
}

// tells asks that Valid tells that of a module.
func tells(t *testing.T, m api.Module, right api.Errno) {
	t.Helper()
	if e := held(t, m); e != right {
		t.Errorf("Valid(%s) = %d; want %d", short(m), e, right)
	}
}

// loads asks that Load tells what the words do of bytes; what it tells is valid, and encoded loaded again the same.
func loads(t *testing.T, b []byte) (api.Module, api.Errno) {
	t.Helper()
	kept := bytes.Clone(b)
	m, e := Load(b)
	right, why := module.Decode(b)
	if why == api.OK {
		why = validByWords(right)
	}
	if why != api.OK {
		right = api.Module{}
	}
	if e != why || !equal(m, right) || !bytes.Equal(b, kept) {
		t.Errorf("Load(%s) = %s, %d; want %s, %d", short(kept), short(m), e, short(right), why)
	}
	if e != api.OK {
		return m, e
	}
	again, f := module.Encode(m)
	back, g := Load(again)
	if f != api.OK || g != api.OK || !equal(back, m) || !module.Same(back, m) || Valid(m) != api.OK {
		t.Errorf("Load(%s) = %s; encoded %s, %d, and loaded %s, %d", short(b), short(m), short(again), f, short(back), g)
	}
	return m, e
}

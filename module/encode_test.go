package module

import (
	"bytes"
	"math"
	"slices"
	"strings"
	"testing"

	"avocet/api"
	"avocet/body"
)

var (
	zero32 = api.Instr{Op: 65} // i32.const of 0
	plain  = api.Module{Start: -1}
)

// with is a module of nothing, with something changed.
func with(change func(*api.Module)) api.Module {
	m := plain
	change(&m)
	return m
}

// coded is a module of one function of that code.
func coded(c api.Code) api.Module {
	return api.Module{Start: -1, Funcs: []int{0}, Codes: []api.Code{c}}
}

// encodes: Encode answers the eight bytes, and these.
func encodes(t *testing.T, m api.Module, parts ...string) {
	t.Helper()
	if b, e := Encode(m); !bytes.Equal(b, module(parts...)) || e != api.OK {
		t.Errorf("Encode(%.300v) = %.300q, %d; want %.300q", m, b, e, module(parts...))
	}
	may(t, m, true)
}

// P8.2: a module of nothing is the eight bytes.
func TestEncodeOfNothing(t *testing.T) {
	encodes(t, plain)
	encodes(t, api.Module{Types: []api.FuncType{}, Imports: []api.Import{}, Funcs: []int{}, Tables: []api.Limits{}, Mems: []api.Limits{}, Globals: []api.GlobalDef{}, Exports: []api.Export{}, Start: -1, Elems: []api.Elem{}, Codes: []api.Code{}, Datas: []api.Data{}})
	encodes(t, api.Module{}, section(8, "\x00"))
}

// P8.2: a section of each list that is not empty, each alone.
func TestEncodeOfEachAlone(t *testing.T) {
	parts, m := full()
	alone := []func(*api.Module){
		func(x *api.Module) { x.Types = m.Types }, func(x *api.Module) { x.Imports = m.Imports }, nil,
		func(x *api.Module) { x.Tables = m.Tables }, func(x *api.Module) { x.Mems = m.Mems }, func(x *api.Module) { x.Globals = m.Globals },
		func(x *api.Module) { x.Exports = m.Exports }, func(x *api.Module) { x.Start = m.Start }, func(x *api.Module) { x.Elems = m.Elems },
		nil, func(x *api.Module) { x.Datas = m.Datas },
	}
	for k, change := range alone {
		if change != nil {
			encodes(t, with(change), parts[k])
		}
	}
	encodes(t, with(func(x *api.Module) { x.Funcs, x.Codes = m.Funcs, m.Codes }), parts[2], parts[9])
	encodes(t, m, parts...)
}

// P8.2: numbers are 0 to 2^32 - 1, wherever they stand; Start may be -1 as well.
func TestSaneOfNumbers(t *testing.T) {
	places := []func(int) api.Module{
		func(v int) api.Module { return api.Module{Start: -1, Imports: []api.Import{{Type: v}}} },
		func(v int) api.Module { return api.Module{Start: -1, Funcs: []int{v}, Codes: make([]api.Code, 1)} },
		func(v int) api.Module {
			return api.Module{Start: -1, Funcs: []int{0, v, 0}, Codes: make([]api.Code, 3)}
		},
		func(v int) api.Module { return api.Module{Start: -1, Exports: []api.Export{{Index: v}}} },
		func(v int) api.Module { return api.Module{Start: -1, Exports: []api.Export{{}, {Kind: 3, Index: v}}} },
		func(v int) api.Module {
			return api.Module{Start: -1, Elems: []api.Elem{{Offset: zero32, Funcs: []int{v}}}}
		},
		func(v int) api.Module {
			return api.Module{Start: -1, Elems: []api.Elem{{Offset: zero32}, {Offset: zero32, Funcs: []int{1, 2, v}}}}
		},
		func(v int) api.Module { return api.Module{Start: -1, Tables: []api.Limits{{Min: v}}} },
		func(v int) api.Module { return api.Module{Start: -1, Tables: []api.Limits{{Max: v, HasMax: true}}} },
		func(v int) api.Module { return api.Module{Start: -1, Mems: []api.Limits{{}, {Min: v}}} },
		func(v int) api.Module { return api.Module{Start: -1, Mems: []api.Limits{{Max: v, HasMax: true}}} },
		func(v int) api.Module {
			return api.Module{Start: -1, Imports: []api.Import{{Kind: 1, Lim: api.Limits{Min: v}}}}
		},
		func(v int) api.Module {
			return api.Module{Start: -1, Imports: []api.Import{{Kind: 2, Lim: api.Limits{Max: v, HasMax: true}}}}
		},
		func(v int) api.Module {
			return api.Module{Start: -1, Globals: []api.GlobalDef{{Val: 127, Init: api.Instr{Op: 35, A: v}}}}
		},
		func(v int) api.Module {
			return api.Module{Start: -1, Elems: []api.Elem{{Offset: api.Instr{Op: 35, A: v}}}}
		},
		func(v int) api.Module {
			return api.Module{Start: -1, Datas: []api.Data{{Offset: api.Instr{Op: 35, A: v}}}}
		},
		func(v int) api.Module { return coded(api.Code{Body: []api.Instr{{Op: 16, A: v}}}) },
	}
	for _, of := range places {
		for _, v := range rightNumbers() {
			may(t, of(v), true)
		}
		for _, v := range wrongNumbers() {
			may(t, of(v), false)
		}
	}
	for _, v := range append(rightNumbers(), -1) {
		may(t, api.Module{Start: v}, true)
	}
	for _, v := range wrongNumbers()[1:] {
		may(t, api.Module{Start: v}, false)
	}
	encodes(t, api.Module{Start: 0}, section(8, "\x00"))
	encodes(t, api.Module{Start: math.MaxUint32}, section(8, "\xff\xff\xff\xff\x0f"))
	may(t, api.Module{Start: -2}, false)
	may(t, api.Module{Start: 1 << 32}, false)
}

// P8.2: lists just as long as may be, and one more.
func TestSaneOfLongLists(t *testing.T) {
	for _, x := range []struct {
		most int
		of   func(n int) api.Module
	}{
		{64, func(n int) api.Module { return api.Module{Start: -1, Types: make([]api.FuncType, n)} }},
		{64, func(n int) api.Module { return api.Module{Start: -1, Imports: make([]api.Import, n)} }},
		{128, func(n int) api.Module {
			return api.Module{Start: -1, Funcs: make([]int, n), Codes: make([]api.Code, n)}
		}},
		{32, func(n int) api.Module { return api.Module{Start: -1, Tables: make([]api.Limits, n)} }},
		{32, func(n int) api.Module { return api.Module{Start: -1, Mems: make([]api.Limits, n)} }},
		{64, func(n int) api.Module {
			return api.Module{Start: -1, Globals: slices.Repeat([]api.GlobalDef{{Val: 126, Init: zero32}}, n)}
		}},
		{64, func(n int) api.Module { return api.Module{Start: -1, Exports: make([]api.Export, n)} }},
		{32, func(n int) api.Module {
			return api.Module{Start: -1, Elems: slices.Repeat([]api.Elem{{Offset: zero32}}, n)}
		}},
		{256, func(n int) api.Module {
			return api.Module{Start: -1, Elems: []api.Elem{{Offset: zero32, Funcs: make([]int, n)}}}
		}},
		{32, func(n int) api.Module {
			return api.Module{Start: -1, Datas: slices.Repeat([]api.Data{{Offset: zero32}}, n)}
		}},
		{64, func(n int) api.Module { return coded(api.Code{Locals: bytes.Repeat([]byte{127}, n)}) }},
		{64, func(n int) api.Module { return coded(api.Code{Locals: bytes.Repeat([]byte{127, 126}, n)[:n]}) }},
		{4096, func(n int) api.Module { return coded(api.Code{Body: slices.Repeat([]api.Instr{{Op: 1}}, n)}) }},
		{16, func(n int) api.Module {
			return api.Module{Start: -1, Types: []api.FuncType{{Params: bytes.Repeat([]byte{126}, n)}}}
		}},
		{1, func(n int) api.Module {
			return api.Module{Start: -1, Types: []api.FuncType{{Results: bytes.Repeat([]byte{126}, n)}}}
		}},
		{64, func(n int) api.Module {
			return api.Module{Start: -1, Exports: []api.Export{{Name: strings.Repeat("x", n)}}}
		}},
		{64, func(n int) api.Module {
			return api.Module{Start: -1, Imports: []api.Import{{Mod: strings.Repeat("x", n)}}}
		}},
		{64, func(n int) api.Module {
			return api.Module{Start: -1, Imports: []api.Import{{Name: strings.Repeat("x", n)}}}
		}},
	} {
		for _, n := range []int{0, 1, x.most - 1, x.most} {
			may(t, x.of(n), true)
		}
		for _, n := range []int{x.most + 1, x.most + 2, 2 * x.most, x.most + 128, 70000} {
			may(t, x.of(n), n <= x.most)
		}
	}
}

// P8.2: names that utf.Lay refuses.
func TestSaneOfNames(t *testing.T) {
	for _, s := range []string{"\xff", "a\x80", "\xc0\x80", "\xed\xa0\x80", "\xe2\x82", strings.Repeat("a", 65), strings.Repeat("é", 33), strings.Repeat("\xff", 65)} {
		may(t, api.Module{Start: -1, Exports: []api.Export{{Name: s}}}, false)
		may(t, api.Module{Start: -1, Exports: []api.Export{{}, {Name: s}, {}}}, false)
		for kind := range 4 {
			i := api.Import{Kind: kind}
			if kind == 3 {
				i.Val = 126
			}
			may(t, api.Module{Start: -1, Imports: []api.Import{i}}, true)
			i.Mod = s
			may(t, api.Module{Start: -1, Imports: []api.Import{i}}, false)
			i.Mod, i.Name = "", s
			may(t, api.Module{Start: -1, Imports: []api.Import{i}}, false)
		}
	}
	for _, s := range []string{"", "\x00", "€", strings.Repeat("é", 32), "\uFFFD"} {
		may(t, api.Module{Start: -1, Exports: []api.Export{{Name: s}}, Imports: []api.Import{{Mod: s, Name: s}}}, true)
	}
}

// P8.2: types of values, wherever they stand, and limits.
func TestSaneOfTypes(t *testing.T) {
	for c := range 256 {
		v, ok := byte(c), c == 126 || c == 127
		may(t, api.Module{Start: -1, Types: []api.FuncType{{Params: []byte{127, v}}}}, ok)
		may(t, api.Module{Start: -1, Types: []api.FuncType{{}, {Results: []byte{v}}}}, ok)
		may(t, api.Module{Start: -1, Imports: []api.Import{{Kind: 3, Val: v}}}, ok)
		may(t, api.Module{Start: -1, Imports: []api.Import{{Kind: 3, Val: v, Mut: true}}}, ok)
		may(t, api.Module{Start: -1, Globals: []api.GlobalDef{{Val: v, Init: zero32}}}, ok)
		may(t, api.Module{Start: -1, Globals: []api.GlobalDef{{Val: 127, Init: zero32}, {Val: v, Mut: true, Init: zero32}}}, ok)
		may(t, coded(api.Code{Locals: []byte{v}}), ok)
		may(t, coded(api.Code{Locals: []byte{127, 127, v, 126}}), ok)
	}
	for _, l := range []api.Limits{{Max: 1}, {Min: -1}, {Min: 1, Max: 1}, {Max: -1, HasMax: true}, {Min: 1 << 32}, {Max: 1 << 32, HasMax: true}, {Max: 1 << 32}} {
		may(t, api.Module{Start: -1, Tables: []api.Limits{l}}, false)
		may(t, api.Module{Start: -1, Mems: []api.Limits{l}}, false)
		may(t, api.Module{Start: -1, Imports: []api.Import{{Kind: 1, Lim: l}}}, false)
		may(t, api.Module{Start: -1, Imports: []api.Import{{Kind: 2, Lim: l}}}, false)
	}
	may(t, api.Module{Start: -1, Tables: []api.Limits{{Min: 9, Max: 2, HasMax: true}}, Mems: []api.Limits{{Min: math.MaxUint32}}}, true)
}

// P8.2: kinds are 0 to 3.
func TestSaneOfKinds(t *testing.T) {
	for k := -300; k < 300; k++ {
		ok := k >= 0 && k <= 3
		may(t, api.Module{Start: -1, Exports: []api.Export{{Kind: k}}}, ok)
		may(t, api.Module{Start: -1, Imports: []api.Import{{Kind: k}}}, ok && k != 3)
		may(t, api.Module{Start: -1, Imports: []api.Import{{Kind: k, Val: 127}}}, k == 3)
	}
	for _, k := range wrongNumbers() {
		may(t, api.Module{Start: -1, Exports: []api.Export{{Kind: k}}}, false)
		may(t, api.Module{Start: -1, Imports: []api.Import{{Kind: k}}}, false)
	}
	may(t, api.Module{Start: -1, Exports: []api.Export{{}, {Kind: 4}}}, false)
}

// P8.2: of an import all that its kind has not is 0.
func TestSaneOfImports(t *testing.T) {
	for kind := range 4 {
		for _, typ := range []int{0, 1, -1} {
			for _, lim := range []api.Limits{{}, {Min: 1}, {Max: 1}, {HasMax: true}, {Min: -1}} {
				for _, val := range []byte{0, 1, 126, 127} {
					for _, mut := range []bool{false, true} {
						i := api.Import{Mod: "m", Name: "n", Kind: kind, Type: typ, Lim: lim, Val: val, Mut: mut}
						may(t, api.Module{Start: -1, Imports: []api.Import{i}}, isImport(i))
						may(t, api.Module{Start: -1, Imports: []api.Import{{}, i, {}}}, isImport(i))
					}
				}
			}
		}
	}
	for kind, wrong := range [][]api.Import{
		{{Lim: api.Limits{Min: 1}}, {Lim: api.Limits{HasMax: true}}, {Val: 127}, {Mut: true}},
		{{Type: 1}, {Val: 127}, {Mut: true}}, {{Type: 1}, {Val: 127}, {Mut: true}},
		{{Val: 127, Type: 1}, {Val: 127, Lim: api.Limits{Min: 1}}, {Val: 127, Lim: api.Limits{HasMax: true}}},
	} {
		for _, i := range wrong {
			i.Kind = kind
			may(t, api.Module{Start: -1, Imports: []api.Import{i}}, false)
		}
	}
}

// expressions are instructions, and whether they are an expression.
func expressions() map[string][]api.Instr {
	ok := []api.Instr{{Op: 65}, {Op: 65, K: math.MaxUint32}, {Op: 66}, {Op: 66, K: math.MaxUint64}, {Op: 35}, {Op: 35, A: math.MaxUint32}, {Op: 35, Labels: []int{}}}
	wrong := []api.Instr{
		{}, {Op: 65, K: 1 << 32}, {Op: 65, A: 1}, {Op: 65, B: 1}, {Op: 65, Labels: []int{0}}, {Op: 66, A: 1}, {Op: 66, B: -1}, {Op: 66, Labels: []int{1}},
		{Op: 35, A: -1}, {Op: 35, A: 1 << 32}, {Op: 35, B: 1}, {Op: 35, K: 1}, {Op: 35, Labels: []int{0}},
		{Op: 1}, {Op: 2}, {Op: 11}, {Op: 5}, {Op: 34}, {Op: 36}, {Op: 32}, {Op: 63}, {Op: 64}, {Op: 67}, {Op: 16}, {Op: -1}, {Op: 65 + 256}, {Op: 35 - 256}, {Op: 66 + 1<<32}, {Op: math.MinInt}, {Op: math.MaxInt},
	}
	return map[string][]api.Instr{"ok": ok, "wrong": wrong}
}

// P8.2: an Init or Offset is Sane, and of 35, 65 or 66.
func TestSaneOfExpressions(t *testing.T) {
	for what, l := range expressions() {
		for _, i := range l {
			may(t, api.Module{Start: -1, Globals: []api.GlobalDef{{Val: 127, Init: i}}}, what == "ok")
			may(t, api.Module{Start: -1, Elems: []api.Elem{{Offset: i, Funcs: []int{1}}}}, what == "ok")
			may(t, api.Module{Start: -1, Datas: []api.Data{{Offset: i, Bytes: []byte("a")}}}, what == "ok")
			may(t, api.Module{Start: -1, Datas: []api.Data{{Offset: zero32}, {Offset: i}}}, what == "ok")
		}
	}
	for op := range 256 {
		may(t, api.Module{Start: -1, Datas: []api.Data{{Offset: api.Instr{Op: op}}}}, op == 35 || op == 65 || op == 66)
	}
}

// P8.2: as many Codes as Funcs, each of what may be.
func TestSaneOfCodes(t *testing.T) {
	for _, f := range []int{0, 1, 2, 127, 128, 129} {
		for _, c := range []int{0, 1, 2, 127, 128, 129} {
			may(t, api.Module{Start: -1, Funcs: make([]int, f), Codes: make([]api.Code, c)}, f == c && f <= 128)
		}
	}
	may(t, api.Module{Start: -1, Imports: []api.Import{{}}, Codes: make([]api.Code, 1)}, false)
	for _, l := range [][]api.Instr{{{Op: 11}}, {{Op: 5}}, {{Op: 2}}, {{Op: 6}}, {{Op: 1, A: 1}}, {{Op: 2, A: 5}, {Op: 11}}, {{Op: -1}}, {{Op: 14, Labels: make([]int, 65)}}} {
		may(t, coded(api.Code{Body: l}), false)
		may(t, api.Module{Start: -1, Funcs: make([]int, 3), Codes: []api.Code{{}, {Body: l}, {}}}, false)
	}
	for _, n := range []int{32, 33} {
		l := slices.Concat(slices.Repeat([]api.Instr{{Op: 3}}, n), []api.Instr{{Op: 1}}, slices.Repeat([]api.Instr{{Op: 11}}, n))
		may(t, coded(api.Code{Body: l}), n == 32)
	}
	encodes(t, coded(api.Code{Locals: []byte{127, 127, 126, 127}, Body: []api.Instr{{Op: 1}}}), section(3, "\x01\x00"), section(10, "\x01\x09\x03\x02\x7f\x01\x7e\x01\x7f\x01\x0b"))
	encodes(t, coded(api.Code{Locals: bytes.Repeat([]byte{126}, 64)}), section(3, "\x01\x00"), section(10, "\x01\x04\x01\x40\x7e\x0b"))
	for n := range 65 {
		may(t, coded(api.Code{Locals: slices.Concat(bytes.Repeat([]byte{127}, n), bytes.Repeat([]byte{126}, 64-n))}), true)
		may(t, coded(api.Code{Locals: slices.Concat(bytes.Repeat([]byte{127}, n), bytes.Repeat([]byte{126}, 65-n))}), false)
	}
}

// P8.2: bytes of just 65536, and one more; a great deal more ends soon, and changes nothing.
func TestSaneOfManyBytes(t *testing.T) {
	// The eight, the ID, three for the section's number, one for how many, one for the 0, three for the expression, three for how many.
	for _, n := range []int{65515, 65516, 65517, 65518, 65536, 1 << 20} {
		m := api.Module{Start: -1, Datas: []api.Data{{Offset: zero32, Bytes: make([]byte, n)}}}
		may(t, m, n <= 65516)
		if b, _ := Encode(m); n <= 65516 && len(b) != n+20 {
			t.Errorf("of %d bytes: %d", n, len(b))
		}
	}
	// In two sections, of which each has room alone.
	for _, n := range []int{65514, 65513, 65512, 65511} {
		may(t, api.Module{Start: 5, Datas: []api.Data{{Offset: zero32, Bytes: make([]byte, n)}}}, n+3+20 <= 65536)
	}
	half := api.Data{Offset: zero32, Bytes: make([]byte, 32000)}
	may(t, api.Module{Start: -1, Datas: []api.Data{half, half}}, true)
	may(t, api.Module{Start: -1, Datas: []api.Data{half, half, half}}, false)
	long := api.Code{Body: slices.Repeat([]api.Instr{{Op: 1}}, 4000)}
	for n, ok := range map[int]bool{1: true, 15: true, 16: true, 17: false, 128: false} {
		may(t, api.Module{Start: -1, Funcs: make([]int, n), Codes: slices.Repeat([]api.Code{long}, n)}, ok)
	}
	wide := api.Code{Body: slices.Repeat([]api.Instr{{Op: 14, Labels: slices.Repeat([]int{math.MaxUint32}, 64)}}, 4096)}
	may(t, coded(wide), false)
	many := api.Module{Start: -1, Funcs: make([]int, 128), Codes: slices.Repeat([]api.Code{wide}, 128)}
	if b, e := Encode(many); Sane(many) || len(b) != 0 || e != api.ErrArg {
		t.Error(len(b), e)
	}
	huge := api.Module{Start: -1, Datas: slices.Repeat([]api.Data{{Offset: zero32, Bytes: make([]byte, 1<<24)}}, 32)}
	if b, e := Encode(huge); Sane(huge) || len(b) != 0 || e != api.ErrArg {
		t.Error(len(b), e)
	}
	name := strings.Repeat("n", 64)
	most := api.Module{Start: -1, Exports: slices.Repeat([]api.Export{{Name: name, Index: math.MaxUint32}}, 64), Imports: slices.Repeat([]api.Import{{Mod: name, Name: name, Type: math.MaxUint32}}, 64), Elems: slices.Repeat([]api.Elem{{Offset: zero32, Funcs: slices.Repeat([]int{math.MaxUint32}, 256)}}, 32)}
	may(t, most, true)
}

// P8.2, P8.4: modules in which each part is one of some, one part changed at a time and all together.
func TestEncodeOfManyModules(t *testing.T) {
	_, m := full()
	parts := []func(*api.Module, int){
		func(x *api.Module, k int) {
			x.Types = [][]api.FuncType{nil, {{}}, {{Params: []byte{127}}, {Results: []byte{7}}}, m.Types}[k]
		},
		func(x *api.Module, k int) { x.Imports = [][]api.Import{nil, {{Kind: 2}}, {{Kind: 3}}, m.Imports}[k] },
		func(x *api.Module, k int) { x.Funcs = [][]int{nil, {4, 5}, {-1, 0}, m.Funcs}[k] },
		func(x *api.Module, k int) { x.Tables = [][]api.Limits{nil, {{}}, {{Max: 1}}, m.Tables}[k] },
		func(x *api.Module, k int) { x.Mems = [][]api.Limits{nil, {{}, {}}, {{Min: -1}}, m.Mems}[k] },
		func(x *api.Module, k int) {
			x.Globals = [][]api.GlobalDef{nil, {{Val: 126, Init: zero32}}, {{}}, m.Globals}[k]
		},
		func(x *api.Module, k int) { x.Exports = [][]api.Export{nil, {{}}, {{Kind: 4}}, m.Exports}[k] },
		func(x *api.Module, k int) { x.Start = []int{-1, 0, -2, m.Start}[k] },
		func(x *api.Module, k int) { x.Elems = [][]api.Elem{nil, {{Offset: zero32}}, {{}}, m.Elems}[k] },
		func(x *api.Module, k int) {
			x.Codes = [][]api.Code{nil, {{}, {Locals: []byte{126}}}, {{Locals: []byte{1}}, {}}, m.Codes}[k]
		},
		func(x *api.Module, k int) { x.Datas = [][]api.Data{nil, {{Offset: zero32}}, {{}}, m.Datas}[k] },
	}
	sane := 0
	// Each choice of all parts, from a row of them that goes over all pairs of parts and more.
	for from := range 4 {
		for p := range parts {
			for q := range parts {
				for k := range 4 {
					for n := range 4 {
						x := api.Module{}
						for _, set := range parts {
							set(&x, from)
						}
						parts[p](&x, k)
						parts[q](&x, n)
						encodeHeld(t, x)
						if Sane(x) {
							sane++
						}
					}
				}
			}
		}
	}
	if sane < 500 {
		t.Errorf("just %d of them may be", sane)
	}
}

// P8.2: what Encode lays of instructions is a body.
func TestEncodeOfBodies(t *testing.T) {
	l := []api.Instr{{Op: 4, A: 127}, {Op: 66, K: math.MaxUint64}, {Op: 5}, {Op: 3}, {Op: 12, A: 1}, {Op: 11}, {Op: 11}, {Op: 17, A: 300}, {Op: 40, A: 2, B: 77777}, {Op: 64}, {Op: 138}}
	b, e := body.Put(nil, l)
	if e != api.OK {
		t.Fatal(e)
	}
	encodes(t, coded(api.Code{Body: l}), section(3, "\x01\x00"), section(10, "\x01", string(u(len(b)+1)), "\x00", string(b)))
}

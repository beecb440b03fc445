package module

import (
	"bytes"
	"math"
	"slices"
	"strings"
	"testing"

	"avocet/api"
)

const start = "\x00asm\x01\x00\x00\x00"

// module is the eight bytes, and what stands behind them.
func module(parts ...string) []byte { return []byte(start + strings.Join(parts, "")) }

// section is a section in bytes, its number as short as may be.
func section(id int, data ...string) string {
	all := strings.Join(data, "")
	return string([]byte{byte(id)}) + string(u(len(all))) + all
}

// many is how many there are, and as many of one.
func many(n int, one string) string { return string(u(n)) + strings.Repeat(one, n) }

// emptyCodes are a list of codes without locals and instructions.
func emptyCodes(n int) string { return many(n, "\x02\x00\x0b") }

// withCode is a module of one function of the type 0, its code these bytes behind how many they are.
func withCode(code string) []byte {
	return module(section(3, "\x01\x00"), section(10, "\x01", string(u(len(code))), code))
}

// funcsFor is what stands ahead of a section of codes, so that there are as many functions; nothing ahead of others.
func funcsFor(id, n int) string {
	if id == 10 && n > 0 {
		return section(3, many(n, "\x00"))
	}
	return ""
}

// codesFor is what stands behind a section of functions.
func codesFor(id, n int) string {
	if id == 3 && n > 0 {
		return section(10, emptyCodes(n))
	}
	return ""
}

// lists are the sections of lists: one that may be in bytes, as many as may be, and how many are told.
var lists = []struct {
	id   int
	one  string
	most int
	told func(api.Module) int
}{
	{1, "\x60\x00\x00", 64, func(m api.Module) int { return len(m.Types) }},
	{2, "\x01a\x00\x00\x05", 64, func(m api.Module) int { return len(m.Imports) }},
	{3, "\x00", 128, func(m api.Module) int { return len(m.Funcs) }},
	{4, "\x70\x00\x01", 32, func(m api.Module) int { return len(m.Tables) }},
	{5, "\x01\x01\x02", 32, func(m api.Module) int { return len(m.Mems) }},
	{6, "\x7f\x01\x41\x00\x0b", 64, func(m api.Module) int { return len(m.Globals) }},
	{7, "\x01x\x03\x00", 64, func(m api.Module) int { return len(m.Exports) }},
	{9, "\x00\x41\x00\x0b\x01\x00", 32, func(m api.Module) int { return len(m.Elems) }},
	{10, "\x04\x01\x01\x7f\x0b", 128, func(m api.Module) int { return len(m.Codes) }},
	{11, "\x00\x23\x00\x0b\x01q", 32, func(m api.Module) int { return len(m.Datas) }},
}

// full is a module with something of everything in it, and its parts one by one.
func full() ([]string, api.Module) {
	m := api.Module{
		Types:   []api.FuncType{{Params: []byte{127}, Results: []byte{126}}, {}},
		Imports: []api.Import{{Mod: "m", Name: "f", Kind: 0, Type: 1}, {Mod: "m", Name: "t", Kind: 1, Lim: api.Limits{Min: 1}}, {Name: "é", Kind: 2, Lim: api.Limits{Min: 1, Max: 200, HasMax: true}}, {Name: "g", Kind: 3, Val: 126, Mut: true}, {Mod: "c", Kind: 3, Val: 127}},
		Funcs:   []int{0, 300},
		Tables:  []api.Limits{{Min: 3, Max: 4, HasMax: true}},
		Mems:    []api.Limits{{Min: 1}, {Max: 2, HasMax: true}},
		Globals: []api.GlobalDef{{Val: 127, Init: api.Instr{Op: 65, K: math.MaxUint32}}, {Val: 126, Mut: true, Init: api.Instr{Op: 35, A: 1}}},
		Exports: []api.Export{{Name: "run", Kind: 0, Index: 1}, {Name: "", Kind: 3, Index: 129}},
		Start:   2,
		Elems:   []api.Elem{{Offset: api.Instr{Op: 65, K: 1}, Funcs: []int{0, 200}}, {Offset: api.Instr{Op: 35}}},
		Codes:   []api.Code{{Locals: []byte{127, 127, 126}, Body: []api.Instr{{Op: 2, A: 126}, {Op: 14, A: 1, Labels: []int{0}}, {Op: 11}}}, {}},
		Datas:   []api.Data{{Offset: api.Instr{Op: 66, K: 1}, Bytes: []byte("hi")}, {Offset: api.Instr{Op: 65}}},
	}
	return []string{
		section(1, "\x02\x60\x01\x7f\x01\x7e\x60\x00\x00"),
		section(2, "\x05\x01m\x01f\x00\x01\x01m\x01t\x01\x70\x00\x01\x00\x02é\x02\x01\x01\xc8\x01\x00\x01g\x03\x7e\x01\x01c\x00\x03\x7f\x00"),
		section(3, "\x02\x00\xac\x02"),
		section(4, "\x01\x70\x01\x03\x04"),
		section(5, "\x02\x00\x01\x01\x00\x02"),
		section(6, "\x02\x7f\x00\x41\x7f\x0b\x7e\x01\x23\x01\x0b"),
		section(7, "\x02\x03run\x00\x01\x00\x03\x81\x01"),
		section(8, "\x02"),
		section(9, "\x02\x00\x41\x01\x0b\x02\x00\xc8\x01\x00\x23\x00\x0b\x00"),
		section(10, "\x02\x0d\x02\x02\x7f\x01\x7e\x02\x7e\x0e\x01\x00\x01\x0b\x0b\x02\x00\x0b"),
		section(11, "\x02\x00\x42\x01\x0b\x02hi\x00\x41\x00\x0b\x00"),
	}, m
}

// P8.1: the eight bytes alone are a module of nothing, with Start -1.
func TestDecodeOfTheStart(t *testing.T) {
	decodes(t, module(), api.Module{Start: -1})
	for n := range 8 {
		fails(t, []byte(start[:n]), api.ErrShort)
	}
	fails(t, nil, api.ErrShort)
	wrong := module()
	wrong[4] = 2
	fails(t, wrong, api.ErrForm)
}

// P8.1: sect.Split's errors are ahead of all that a section says.
func TestDecodeOfWrongSections(t *testing.T) {
	bad := section(1, "\x41") // ErrLimit
	fails(t, module(bad), api.ErrLimit)
	for _, x := range []struct {
		s string
		e api.Errno
	}{{"\x0c\x00", api.ErrForm}, {"\x02", api.ErrShort}, {"\x02\x01", api.ErrShort}, {"\x02\x80\x80\x80\x80\x10", api.ErrForm}, {section(1, ""), api.ErrForm}, {section(0, ""), api.ErrShort}, {section(0, "\x01\xff"), api.ErrForm}, {section(0, "\x02a"), api.ErrShort}} {
		fails(t, module(bad, x.s), x.e)
	}
	fails(t, module(section(2, "\x00"), section(1, "\x00")), api.ErrForm)
	fails(t, module(bad, section(0, "\x41", strings.Repeat("a", 65))), api.ErrLimit)
	for _, n := range []int{65535, 65536, 65537} {
		b := module(section(11, "\x01\x00\x41\x00\x0b", string(u(n-20)), strings.Repeat("d", n-20)))
		if len(b) != n {
			t.Fatal(len(b), n)
		}
		if n > 65536 {
			fails(t, b, api.ErrLimit)
		} else {
			decodes(t, b, api.Module{Start: -1, Datas: []api.Data{{Offset: api.Instr{Op: 65}, Bytes: bytes.Repeat([]byte("d"), n-20)}}})
		}
	}
}

// P8.1: something of everything.
func TestDecodeOfAll(t *testing.T) {
	parts, m := full()
	decodes(t, module(parts...), m)
	if b, e := Encode(m); !bytes.Equal(b, module(parts...)) || e != api.OK {
		t.Errorf("Encode = %q, %d", b, e)
	}
}

// P8.1: each section's ID alone: without a number, without bytes, and with nothing in its list.
func TestDecodeOfEachIDAlone(t *testing.T) {
	for id := 1; id <= 11; id++ {
		fails(t, module(string([]byte{byte(id)})), api.ErrShort)
		fails(t, module(section(id, "")), api.ErrShort)
		fails(t, module(section(id, "\x80")), api.ErrShort)
		fails(t, module(section(id, "\x80\x80\x80\x80\x80")), api.ErrForm)
		fails(t, module(section(id, "\x80\x80\x80\x80\x10")), api.ErrForm)
		fails(t, module(section(id, "\x00\x00")), api.ErrForm)
		want := api.Module{Start: -1}
		if id == 8 {
			want.Start = 0
		}
		for _, none := range []string{"\x00", "\x80\x00", "\x80\x80\x80\x80\x00"} {
			decodes(t, module(section(id, none)), want)
		}
	}
	for id := 12; id < 256; id++ {
		fails(t, module(section(id, "\x00")), api.ErrForm)
	}
}

// P8.1: each section cut off at each place, its number that of what is left: it is short, whatever stands behind it.
func TestDecodeOfEachCutOff(t *testing.T) {
	parts, _ := full()
	for k, p := range parts {
		id, data := k+1, p[2:]
		if len(p) > 129 {
			t.Fatal("a number of two bytes")
		}
		for end := range len(data) {
			for _, behind := range []string{"", section(0, "\x00")} {
				fails(t, module(section(id, data[:end]), behind), api.ErrShort)
				fails(t, module(strings.Join(parts[:k], ""), section(id, data[:end]), strings.Join(parts[k+1:], ""), behind), api.ErrShort)
			}
		}
	}
	for id := 1; id <= 11; id++ {
		whole := parts[id-1]
		for end := 1; end < len(whole); end++ {
			fails(t, module(whole[:end]), api.ErrShort)
		}
	}
}

// P8.1: bytes behind what is read are left, and may not be, whatever they are.
func TestDecodeOfBytesLeft(t *testing.T) {
	parts, _ := full()
	for k, p := range parts {
		for _, left := range []string{"\x00", "\x0b", "\xff", "\x01\x02\x03", p[2:]} {
			fails(t, module(section(k+1, p[2:], left)), api.ErrForm)
			fails(t, module(strings.Join(parts[:k], ""), section(k+1, p[2:], left), strings.Join(parts[k+1:], "")), api.ErrForm)
		}
	}
	// Ahead of what is wrong in a later section, and behind what is wrong in this one.
	fails(t, module(section(1, "\x00\x00"), section(2, "\x41")), api.ErrForm)
	fails(t, module(section(1, "\x41\x00"), section(2, "\x00\x00")), api.ErrLimit)
}

// P8.1: none, one, as many as may be and one more.
func TestDecodeOfEachList(t *testing.T) {
	for _, x := range lists {
		for _, n := range []int{0, 1, 2, x.most - 1, x.most, x.most + 1, 127, 128, 129, 200} {
			b := module(funcsFor(x.id, min(n, 128)), section(x.id, many(n, x.one)), codesFor(x.id, min(n, 128)))
			if n > x.most {
				fails(t, b, api.ErrLimit)
				continue
			}
			m, e := Decode(b)
			if x.told(m) != n || e != api.OK {
				t.Errorf("%d of the ID %d: %v, %d", n, x.id, m, e)
			}
			decodeHeld(t, b)
		}
		// How many there are is told ahead of them: too many is no matter of whether they follow.
		for _, n := range []int{x.most + 1, 1 << 20, math.MaxInt32, 1 << 31, math.MaxUint32} {
			fails(t, module(section(x.id, string(u(n)))), api.ErrLimit)
			fails(t, module(section(x.id, string(u(n)), "\xff")), api.ErrLimit)
		}
		fails(t, module(section(x.id, string(u(x.most)))), api.ErrShort)
		fails(t, module(section(x.id, string(u(x.most)), strings.Repeat(x.one, x.most-1))), api.ErrShort)
	}
}

// P8.1: sections of the ID 0 say nothing, ahead, between and behind, whatever is in them.
func TestDecodeOfCustomSections(t *testing.T) {
	parts, m := full()
	for _, c := range []string{section(0, "\x00"), section(0, "\x01n\x41\xff"), section(0, "\x00", parts[0]), section(0, "\x02\xc3\xa9", strings.Repeat("\x80", 200)), strings.Repeat(section(0, "\x00\x01"), 5)} {
		decodes(t, module(c), api.Module{Start: -1})
		decodes(t, module(c, strings.Join(parts, c), c), m)
		for k := range len(parts) + 1 {
			decodes(t, module(strings.Join(parts[:k], ""), c, strings.Join(parts[k:], "")), m)
		}
		fails(t, module(c, section(1, "\x41"), c), api.ErrLimit)
		fails(t, module(c, section(3, "\x01\x00"), c), api.ErrForm)
	}
}

// P8.1: types, and each error of types.Func.
func TestDecodeOfTypes(t *testing.T) {
	decodes(t, module(section(1, "\x02\x60\x02\x7f\x7e\x01\x7e\x60\x10", strings.Repeat("\x7f", 16), "\x00")), api.Module{Start: -1, Types: []api.FuncType{{Params: []byte{127, 126}, Results: []byte{126}}, {Params: bytes.Repeat([]byte{127}, 16)}}})
	for _, x := range []struct {
		s string
		e api.Errno
	}{{"\x61\x00\x00", api.ErrForm}, {"\x00", api.ErrForm}, {"\x60\x11", api.ErrLimit}, {"\x60\x00\x02", api.ErrLimit}, {"\x60\x01\x7d\x00", api.ErrForm}, {"\x60\x00\x01\x40", api.ErrForm}, {"\x60", api.ErrShort}, {"\x60\x01", api.ErrShort}, {"\x60\x00", api.ErrShort}, {"\x60\x80\x80\x80\x80\x80", api.ErrForm}} {
		fails(t, module(section(1, "\x01", x.s)), x.e)
		fails(t, module(section(1, "\x02\x60\x00\x00", x.s)), x.e)
	}
}

// wrongNames are names that may not be, and their errors.
func wrongNames() map[string]api.Errno {
	return map[string]api.Errno{
		"": api.ErrShort, "\x80": api.ErrShort, "\x02a": api.ErrShort, "\x41": api.ErrShort, "\xff\xff\xff\xff\x0f": api.ErrShort,
		"\x80\x80\x80\x80\x80": api.ErrForm, "\x80\x80\x80\x80\x10": api.ErrForm, "\x01\xff": api.ErrForm, "\x02\xc0\x80": api.ErrForm, "\x03\xed\xa0\x80": api.ErrForm,
		"\x41" + strings.Repeat("a", 65): api.ErrLimit, "\x41" + strings.Repeat("\xff", 65): api.ErrLimit,
	}
}

// wrongLimits are limits that may not be, and their errors.
func wrongLimits() map[string]api.Errno {
	return map[string]api.Errno{
		"": api.ErrShort, "\x00": api.ErrShort, "\x01": api.ErrShort, "\x01\x01": api.ErrShort, "\x00\x80": api.ErrShort,
		"\x02\x00": api.ErrForm, "\xff": api.ErrForm, "\x00\x80\x80\x80\x80\x80": api.ErrForm, "\x00\xff\xff\xff\xff\x10": api.ErrForm, "\x01\x00\xff\xff\xff\xff\x1f": api.ErrForm,
	}
}

// P8.1: imports: names, kinds, and what each kind has.
func TestDecodeOfImports(t *testing.T) {
	long := strings.Repeat("n", 64)
	decodes(t, module(section(2, "\x03\x40", long, "\x82\x00ab\x00\xff\xff\xff\xff\x0f\x00\x00\x00\x80\x00\x03\xe2\x82\xac\x00\x00\x85\x80\x80\x80\x00")),
		api.Module{Start: -1, Imports: []api.Import{{Mod: long, Name: "ab", Type: math.MaxUint32}, {}, {Mod: "€", Type: 5}}})
	decodes(t, module(section(2, "\x04\x00\x00\x01\x70\x00\x05\x00\x00\x01\x70\x01\x05\xff\xff\xff\xff\x0f\x00\x00\x02\x00\x00\x00\x00\x02\x01\x09\x03")),
		api.Module{Start: -1, Imports: []api.Import{{Kind: 1, Lim: api.Limits{Min: 5}}, {Kind: 1, Lim: api.Limits{Min: 5, Max: math.MaxUint32, HasMax: true}}, {Kind: 2}, {Kind: 2, Lim: api.Limits{Min: 9, Max: 3, HasMax: true}}}})
	decodes(t, module(section(2, "\x04\x00\x00\x03\x7f\x00\x00\x00\x03\x7f\x01\x00\x00\x03\x7e\x00\x00\x00\x03\x7e\x01")),
		api.Module{Start: -1, Imports: []api.Import{{Kind: 3, Val: 127}, {Kind: 3, Val: 127, Mut: true}, {Kind: 3, Val: 126}, {Kind: 3, Val: 126, Mut: true}}})
	for name, e := range wrongNames() {
		fails(t, module(section(2, "\x01", name)), e)
		fails(t, module(section(2, "\x01\x01m", name)), e)
		fails(t, module(section(2, "\x02\x01m\x01f\x00\x00\x00", name)), e)
	}
	for l, e := range wrongLimits() {
		fails(t, module(section(2, "\x01\x00\x00\x01\x70", l)), e)
		fails(t, module(section(2, "\x01\x00\x00\x02", l)), e)
	}
	for c := range 256 {
		one := string([]byte{byte(c)})
		if c > 3 {
			fails(t, module(section(2, "\x01\x00\x00", one)), api.ErrForm)
			fails(t, module(section(2, "\x01\x00\x00", one, "\x00")), api.ErrForm)
		}
		if c != 112 {
			fails(t, module(section(2, "\x01\x00\x00\x01", one)), api.ErrForm)
			fails(t, module(section(2, "\x01\x00\x00\x01", one, "\x00\x00")), api.ErrForm)
		}
		if c > 1 {
			fails(t, module(section(2, "\x01\x00\x00\x03\x7f", one)), api.ErrForm)
		}
		if c != 126 && c != 127 {
			fails(t, module(section(2, "\x01\x00\x00\x03", one, "\x00")), api.ErrForm)
		}
		for kind := range 5 {
			decodeHeld(t, module(section(2, "\x01\x00\x00", string(rune(kind)), one, "\x00")))
			decodeHeld(t, module(section(2, "\x01\x00\x00", string(rune(kind)), one, "\x01\x00")))
		}
	}
	fails(t, module(section(2, "\x01\x00\x00")), api.ErrShort)
	fails(t, module(section(2, "\x01\x00\x00\x00")), api.ErrShort)
	fails(t, module(section(2, "\x01\x00\x00\x00\x80\x80\x80\x80\x80")), api.ErrForm)
	fails(t, module(section(2, "\x01\x00\x00\x01")), api.ErrShort)
	fails(t, module(section(2, "\x01\x00\x00\x03")), api.ErrShort)
	fails(t, module(section(2, "\x01\x00\x00\x03\x7f")), api.ErrShort)
}

// P8.1: tables and memories.
func TestDecodeOfTablesAndMemories(t *testing.T) {
	want := []api.Limits{{Min: 1}, {Min: 2, Max: 1, HasMax: true}, {Min: math.MaxUint32}}
	decodes(t, module(section(4, "\x03\x70\x00\x01\x70\x01\x02\x01\x70\x00\xff\xff\xff\xff\x0f")), api.Module{Start: -1, Tables: want})
	decodes(t, module(section(5, "\x03\x00\x01\x01\x02\x01\x00\xff\xff\xff\xff\x0f")), api.Module{Start: -1, Mems: want})
	for l, e := range wrongLimits() {
		fails(t, module(section(4, "\x01\x70", l)), e)
		fails(t, module(section(4, "\x02\x70\x00\x00\x70", l)), e)
		fails(t, module(section(5, "\x01", l)), e)
		fails(t, module(section(5, "\x02\x00\x00", l)), e)
	}
	for c := range 256 {
		one := string([]byte{byte(c)})
		if c != 112 {
			fails(t, module(section(4, "\x01", one)), api.ErrForm)
			fails(t, module(section(4, "\x01", one, "\x02")), api.ErrForm)
			fails(t, module(section(4, "\x01", one, "\x00\x00")), api.ErrForm)
		}
		if c > 1 {
			fails(t, module(section(5, "\x01", one, "\x00\x00")), api.ErrForm)
		}
	}
}

// inExpression are what stands ahead of an expression, the section's ID, and what stands behind.
var inExpression = []struct {
	id            int
	front, behind string
}{{6, "\x01\x7f\x00", ""}, {6, "\x02\x7e\x01\x41\x00\x0b\x7f\x01", ""}, {9, "\x01\x00", "\x00"}, {9, "\x01\x80\x00", "\x02\x01\x02"}, {11, "\x01\x00", "\x01q"}, {11, "\x02\x00\x42\x00\x0b\x02ab\x00", "\x00"}}

// P8.1: expressions of no, one and two instructions, of each code, and each error of a body.
func TestDecodeOfExpressions(t *testing.T) {
	ok := []string{"\x41\x00\x0b", "\x41\x7f\x0b", "\x41\xff\xff\xff\xff\x07\x0b", "\x41\x80\x00\x0b", "\x42\x00\x0b", "\x42\x80\x80\x80\x80\x80\x80\x80\x80\x80\x7f\x0b", "\x23\x00\x0b", "\x23\xff\xff\xff\xff\x0f\x0b"}
	wrong := map[string]api.Errno{
		"\x0b": api.ErrType, "\x41\x00\x41\x00\x0b": api.ErrType, "\x41\x00\x1a\x0b": api.ErrType, "\x01\x41\x00\x0b": api.ErrType, "\x42\x01\x42\x01\x7c\x0b": api.ErrType, "\x41\x00\x01\x0b": api.ErrType,
		"\x20\x00\x0b": api.ErrType, "\x24\x00\x0b": api.ErrType, "\x01\x0b": api.ErrType, "\x00\x0b": api.ErrType, "\x3f\x00\x0b": api.ErrType, "\x40\x00\x0b": api.ErrType, "\x10\x00\x0b": api.ErrType, "\x0e\x00\x00\x0b": api.ErrType, "\x02\x40\x0b\x0b": api.ErrType, "\x02\x40\x41\x00\x0b\x0b": api.ErrType,
		"\x05\x0b": api.ErrForm, "\x43\x00\x00\x00\x00\x0b": api.ErrForm, "\xff\x0b": api.ErrForm, "\x02\x41\x0b\x0b": api.ErrForm, "\x41\x80\x80\x80\x80\x08\x0b": api.ErrForm, "\x41\x00\x06\x0b": api.ErrForm,
		"\x0e\x41": api.ErrLimit, strings.Repeat("\x02\x40", 33) + "\x01": api.ErrLimit, strings.Repeat("\x01", 4097) + "\x0b": api.ErrLimit, strings.Repeat("\x01", 4096) + "\x0b": api.ErrType,
	}
	for _, x := range inExpression {
		for _, s := range ok {
			b := module(section(x.id, x.front, s, x.behind))
			if _, e := Decode(b); e != api.OK {
				t.Errorf("Decode(%q): %d", b, e)
			}
			decodeHeld(t, b)
		}
		for s, e := range wrong {
			fails(t, module(section(x.id, x.front, s, x.behind)), e)
		}
		for _, s := range []string{"", "\x41", "\x41\x80", "\x41\x00", "\x42\x00", "\x23", "\x02\x40\x41\x00\x0b"} {
			fails(t, module(section(x.id, x.front, s)), api.ErrShort)
		}
		for c := range 256 {
			for _, rest := range []string{"\x0b", "\x00\x0b", "\x00\x00\x0b", "\x40\x0b\x0b"} {
				decodeHeld(t, module(section(x.id, x.front, string([]byte{byte(c)}), rest, x.behind)))
			}
		}
	}
	decodes(t, module(section(6, "\x03\x7f\x00\x41\x40\x0b\x7e\x01\x42\x7f\x0b\x7f\x01\x23\x80\x01\x0b")), api.Module{Start: -1, Globals: []api.GlobalDef{{Val: 127, Init: api.Instr{Op: 65, K: math.MaxUint32 - 63}}, {Val: 126, Mut: true, Init: api.Instr{Op: 66, K: math.MaxUint64}}, {Val: 127, Mut: true, Init: api.Instr{Op: 35, A: 128}}}})
}

// P8.1: globals: type, Mut, and an expression.
func TestDecodeOfGlobals(t *testing.T) {
	for c := range 256 {
		one := string([]byte{byte(c)})
		if c != 126 && c != 127 {
			fails(t, module(section(6, "\x01", one)), api.ErrForm)
			fails(t, module(section(6, "\x01", one, "\x02\x0b")), api.ErrForm)
			fails(t, module(section(6, "\x01", one, "\x00\x0b")), api.ErrForm)
		}
		if c > 1 {
			fails(t, module(section(6, "\x01\x7f", one)), api.ErrForm)
			fails(t, module(section(6, "\x01\x7e", one, "\x0b")), api.ErrForm)
			fails(t, module(section(6, "\x01\x7e", one, "\x41\x00\x0b")), api.ErrForm)
		}
	}
	fails(t, module(section(6, "\x01")), api.ErrShort)
	fails(t, module(section(6, "\x01\x7f")), api.ErrShort)
	fails(t, module(section(6, "\x01\x7f\x00")), api.ErrShort)
}

// P8.1: exports: a name, a kind, a number; the start.
func TestDecodeOfExportsAndStart(t *testing.T) {
	long := strings.Repeat("é", 32)
	decodes(t, module(section(7, "\x05\x40", long, "\x00\x00\x00\x01\xff\xff\xff\xff\x0f\x01a\x02\x80\x01\x01a\x03\x80\x00\x01a\x03\x01")),
		api.Module{Start: -1, Exports: []api.Export{{Name: long}, {Kind: 1, Index: math.MaxUint32}, {Name: "a", Kind: 2, Index: 128}, {Name: "a", Kind: 3}, {Name: "a", Kind: 3, Index: 1}}})
	for name, e := range wrongNames() {
		fails(t, module(section(7, "\x01", name)), e)
		fails(t, module(section(7, "\x02\x01m\x00\x00", name)), e)
	}
	for c := 4; c < 256; c++ {
		fails(t, module(section(7, "\x01\x00", string([]byte{byte(c)}))), api.ErrForm)
		fails(t, module(section(7, "\x01\x00", string([]byte{byte(c)}), "\x80\x80\x80\x80\x80")), api.ErrForm)
		fails(t, module(section(7, "\x01\x00", string([]byte{byte(c)}), "\x00")), api.ErrForm)
	}
	for _, v := range rightNumbers() {
		decodes(t, module(section(7, "\x01\x00\x00", string(u(v)))), api.Module{Start: -1, Exports: []api.Export{{Index: v}}})
		decodes(t, module(section(8, string(u(v)))), api.Module{Start: v})
	}
	decodes(t, module(section(8, "\x81\x80\x80\x80\x00")), api.Module{Start: 1})
	for _, s := range []string{"\x80\x80\x80\x80\x10", "\xff\xff\xff\xff\x7f", "\x80\x80\x80\x80\x80\x00"} {
		fails(t, module(section(7, "\x01\x00\x00", s)), api.ErrForm)
		fails(t, module(section(8, s)), api.ErrForm)
		fails(t, module(section(3, "\x01", s)), api.ErrForm)
	}
}

// P8.1: elements and data: a number, that is 0, an expression, and what is laid.
func TestDecodeOfElementsAndData(t *testing.T) {
	for _, n := range []int{0, 1, 127, 128, 255, 256} {
		b := module(section(9, "\x01\x00\x41\x00\x0b", many(n, "\x80\x01")))
		decodes(t, b, api.Module{Start: -1, Elems: []api.Elem{{Offset: api.Instr{Op: 65}, Funcs: slices.Repeat([]int{128}, n)}}})
	}
	for _, n := range []int{257, 1000, math.MaxUint32} {
		fails(t, module(section(9, "\x01\x00\x41\x00\x0b", string(u(n)))), api.ErrLimit)
	}
	fails(t, module(section(9, "\x01\x00\x41\x00\x0b", many(257, "\x00"))), api.ErrLimit)
	fails(t, module(section(9, "\x01\x00\x41\x00\x0b\x01\x80\x80\x80\x80\x80")), api.ErrForm)
	for _, n := range []int{0, 1, 127, 128, 16384, 65000} {
		some := strings.Repeat("\x8f", n)
		b := module(section(11, "\x01\x00\x41\x00\x0b", string(u(n)), some))
		decodes(t, b, api.Module{Start: -1, Datas: []api.Data{{Offset: api.Instr{Op: 65}, Bytes: []byte(some)}}})
		fails(t, module(section(11, "\x01\x00\x41\x00\x0b", string(u(n+1)), some)), api.ErrShort)
		fails(t, module(section(11, "\x01\x00\x41\x00\x0b", string(u(n)), some, "\x00")), api.ErrForm)
	}
	for _, n := range []int{6, 1 << 31, math.MaxUint32} {
		fails(t, module(section(11, "\x01\x00\x41\x00\x0b", string(u(n)), "short")), api.ErrShort)
	}
	for _, id := range []int{9, 11} {
		for _, v := range rightNumbers()[1:] {
			for _, rest := range []string{"", "\x0b", "\x41\x00\x0b\x00", "\xff"} {
				fails(t, module(section(id, "\x01", string(u(v)), rest)), api.ErrType)
				fails(t, module(section(id, "\x02\x00\x41\x00\x0b\x00", string(u(v)), rest)), api.ErrType)
			}
		}
		fails(t, module(section(id, "\x01\x80\x80\x80\x80\x80")), api.ErrForm)
		fails(t, module(section(id, "\x01\x80")), api.ErrShort)
		decodeHeld(t, module(section(id, "\x01\x80\x80\x80\x80\x00\x41\x00\x0b\x00")))
	}
}

// P8.1: codes: how many bytes, in these the runs and the body.
func TestDecodeOfCodes(t *testing.T) {
	decodes(t, withCode("\x00\x0b"), api.Module{Start: -1, Funcs: []int{0}, Codes: []api.Code{{}}})
	decodes(t, withCode("\x00\x01\x41\x05\x1a\x0b"), api.Module{Start: -1, Funcs: []int{0}, Codes: []api.Code{{Body: []api.Instr{{Op: 1}, {Op: 65, K: 5}, {Op: 26}}}}})
	for _, x := range []struct {
		code string
		e    api.Errno
	}{
		{"", api.ErrShort}, {"\x80", api.ErrShort}, {"\x00", api.ErrShort}, {"\x00\x01", api.ErrShort}, {"\x00\x02\x40\x0b", api.ErrShort}, {"\x01", api.ErrShort}, {"\x01\x01", api.ErrShort}, {"\x01\x01\x7f", api.ErrShort},
		{"\x00\x0b\x0b", api.ErrForm}, {"\x00\x0b\x00", api.ErrForm}, {"\x00\x0b\xff", api.ErrForm}, {"\x00\x02\x40\x0b\x0b\x01", api.ErrForm},
		{"\x00\x05\x0b", api.ErrForm}, {"\x00\x06\x0b", api.ErrForm}, {"\x00\x43\x0b", api.ErrForm}, {"\x80\x80\x80\x80\x80", api.ErrForm}, {"\x01\x80\x80\x80\x80\x80", api.ErrForm}, {"\x00\x41\x80\x80\x80\x80\x08\x0b", api.ErrForm},
		{"\x00\x0e\x41", api.ErrLimit}, {"\x00" + strings.Repeat("\x01", 4097) + "\x0b", api.ErrLimit}, {"\x00" + strings.Repeat("\x02\x40", 33) + "\x01", api.ErrLimit}, {"\x00" + strings.Repeat("\x01", 4096) + "\x0b", api.OK},
	} {
		if x.e == api.OK {
			decodeHeld(t, withCode(x.code))
			continue
		}
		fails(t, withCode(x.code), x.e)
		fails(t, module(section(10, "\x02\x02\x00\x0b", string(u(len(x.code))), x.code)), x.e)
		// What stands behind a code's bytes is not its own.
		fails(t, module(section(10, "\x02", string(u(len(x.code))), x.code, "\x02\x00\x0b")), x.e)
	}
	fails(t, module(section(3, "\x01\x00"), section(10, "\x01\x03\x00\x0b")), api.ErrShort)
	fails(t, module(section(3, "\x01\x00"), section(10, "\x01\x80\x80\x80\x80\x10\x00\x0b")), api.ErrForm)
	fails(t, module(section(3, "\x01\x00"), section(10, "\x01\xff\xff\xff\xff\x0f\x00\x0b")), api.ErrShort)
	fails(t, module(section(3, "\x01\x00"), section(10, "\x01\x02\x00\x0b\x00")), api.ErrForm)
	decodes(t, module(section(3, "\x01\x00"), section(10, "\x81\x00\x82\x80\x00\x00\x0b")), api.Module{Start: -1, Funcs: []int{0}, Codes: []api.Code{{}}})
	decodes(t, module(section(3, "\x02\x00\x01"), section(10, "\x02\x03\x00\x01\x0b\x02\x00\x0b")), api.Module{Start: -1, Funcs: []int{0, 1}, Codes: []api.Code{{Body: []api.Instr{{Op: 1}}}, {}}})
}

// run is a run of locals in bytes.
func run(n int, v byte) string { return string(u(n)) + string([]byte{v}) }

// P8.1: runs of locals: at most 64 of them, and at most 64 locals in all.
func TestDecodeOfLocals(t *testing.T) {
	of := func(n int, v byte) []byte { return bytes.Repeat([]byte{v}, n) }
	for _, x := range []struct {
		runs   []string
		locals []byte
	}{
		{nil, nil}, {[]string{run(0, 127)}, nil}, {[]string{run(0, 127), run(0, 126)}, nil}, {[]string{run(1, 127)}, of(1, 127)},
		{[]string{run(2, 126), run(0, 127), run(3, 126)}, of(5, 126)}, {[]string{run(1, 127), run(1, 126), run(1, 127)}, []byte{127, 126, 127}},
		{[]string{run(64, 127)}, of(64, 127)}, {[]string{run(63, 127), run(1, 126)}, append(of(63, 127), 126)}, {[]string{run(64, 126), run(0, 127)}, of(64, 126)},
		{slices.Repeat([]string{run(1, 127)}, 64), of(64, 127)}, {slices.Repeat([]string{run(0, 127)}, 64), nil}, {slices.Repeat([]string{run(1, 126), run(1, 127)}, 32), bytes.Repeat([]byte{126, 127}, 32)},
		{[]string{"\x80\x00\x7f", "\x82\x80\x80\x80\x00\x7e"}, of(2, 126)}, {append(slices.Repeat([]string{run(0, 127)}, 63), run(64, 126)), of(64, 126)},
	} {
		code := string(u(len(x.runs))) + strings.Join(x.runs, "")
		decodes(t, withCode(code+"\x0b"), api.Module{Start: -1, Funcs: []int{0}, Codes: []api.Code{{Locals: x.locals}}})
		fails(t, withCode(code), api.ErrShort)
	}
	for _, x := range []struct {
		runs string
		e    api.Errno
	}{
		{"\x01" + run(65, 127), api.ErrLimit}, {"\x02" + run(64, 127) + run(1, 127), api.ErrLimit}, {"\x02" + run(64, 127) + run(1, 126), api.ErrLimit}, {"\x01" + run(math.MaxUint32, 127), api.ErrLimit}, {"\x02" + run(1, 127) + run(math.MaxUint32, 127), api.ErrLimit}, {"\x02" + run(32, 127) + run(33, 126), api.ErrLimit}, {"\x01" + run(1<<31, 126), api.ErrLimit},
		{"\x41", api.ErrLimit}, {"\x41" + strings.Repeat(run(0, 127), 65), api.ErrLimit}, {"\xff\xff\xff\xff\x0f", api.ErrLimit},
		{"\x01\x00\x7d", api.ErrForm}, {"\x01\x01\x00", api.ErrForm}, {"\x01\x01\x80", api.ErrForm}, {"\x02\x01\x7f\x01\x40", api.ErrForm},
		{"\x01\x41\x7d", api.ErrForm}, {"\x02\x40\x7f\x01\x7d", api.ErrForm}, // the type ahead of how many they are
		{"\x02" + run(65, 127) + "\x00\x7d", api.ErrLimit}, {"\x02" + run(65, 127), api.ErrLimit}, // behind each run
		{"\x01\x41", api.ErrShort}, {"\x01\x80\x80\x80\x80\x10\x7f", api.ErrForm},
	} {
		for _, rest := range []string{"", "\x0b", "\x06", "\x01"} {
			if x.e == api.ErrShort && rest != "" {
				continue
			}
			fails(t, withCode(x.runs+rest), x.e)
		}
	}
	for n := range 70 {
		for k := range 70 {
			b := withCode("\x02" + run(n, 127) + run(k, 126) + "\x0b")
			if _, e := Decode(b); (e == api.OK) != (n+k <= 64) || e != api.OK && e != api.ErrLimit {
				t.Errorf("runs of %d and %d: %d", n, k, e)
			}
		}
	}
}

// P8.1: at last there have to be as many codes as functions.
func TestDecodeOfAsManyCodes(t *testing.T) {
	for _, f := range []int{-1, 0, 1, 2, 3, 127, 128} {
		for _, c := range []int{-1, 0, 1, 2, 3, 127, 128} {
			var parts []string
			if f >= 0 {
				parts = append(parts, section(3, many(f, "\x05")))
			}
			if c >= 0 {
				parts = append(parts, section(10, emptyCodes(c)))
			}
			n := max(f, 0)
			if n == max(c, 0) {
				decodes(t, module(parts...), api.Module{Start: -1, Funcs: slices.Repeat([]int{5}, n), Codes: make([]api.Code, n)})
			} else {
				fails(t, module(parts...), api.ErrForm)
				// All else is ahead of it.
				fails(t, module(strings.Join(parts, ""), section(11, "\x21")), api.ErrLimit)
				fails(t, module(strings.Join(parts, ""), section(11, "\x01\x01")), api.ErrType)
				fails(t, module(strings.Join(parts, ""), section(11, "\x01")), api.ErrShort)
			}
		}
	}
	// Imported functions have no code.
	decodes(t, module(section(2, "\x01\x00\x00\x00\x00")), api.Module{Start: -1, Imports: []api.Import{{}}})
	fails(t, module(section(2, "\x01\x00\x00\x00\x00"), section(10, "\x01\x02\x00\x0b")), api.ErrForm)
}

// P8.1, R2: of two errors it is the first one in the chapter's order.
func TestDecodeOrderOfErrors(t *testing.T) {
	for _, x := range []struct {
		s string
		e api.Errno
	}{
		{section(1, "\x41") + section(4, "\x01\x6f"), api.ErrLimit}, {section(1, "\x01\x61") + section(4, "\x21"), api.ErrForm}, {section(4, "\x01\x6f") + section(9, "\x01\x01"), api.ErrForm}, {section(9, "\x01\x01") + section(11, "\x01\x80"), api.ErrType}, {section(9, "\x01\x80") + section(11, "\x01\x01"), api.ErrShort},
		{section(2, "\x01\x01\xff\x00\x04"), api.ErrForm}, {section(2, "\x01\x00\x41"+strings.Repeat("a", 65)+"\x04"), api.ErrLimit}, {section(2, "\x01\x00\x05a\x04"), api.ErrShort}, {section(2, "\x01\x00\x00\x04"), api.ErrForm},
		{section(2, "\x02\x00\x00\x04\x01\xff"), api.ErrForm}, {section(2, "\x02\x00\x00\x01\x6f\x05"), api.ErrForm}, {section(2, "\x02\x00\x00\x00\x00\x41"+strings.Repeat("a", 65)), api.ErrLimit},
		{section(6, "\x01\x7d\x02"), api.ErrForm}, {section(6, "\x01\x7f\x02\x0b"), api.ErrForm}, {section(6, "\x02\x7f\x00\x0b\x7d"), api.ErrType}, {section(6, "\x01\x7f\x00\x0b\x00"), api.ErrType}, {section(6, "\x01\x7f\x00\x01\x05"), api.ErrForm}, {section(6, "\x01\x7f\x00\x01\x01"), api.ErrShort},
		{section(9, "\x01\x01\x05"), api.ErrType}, {section(9, "\x01\x00\x05\x81\x02"), api.ErrForm}, {section(9, "\x01\x00\x0b\x81\x02"), api.ErrType}, {section(9, "\x02\x00\x41\x00\x0b\x81\x02\x01"), api.ErrLimit},
		{section(11, "\x01\x01\x05"), api.ErrType}, {section(11, "\x01\x00\x0b\x05"), api.ErrType}, {section(11, "\x02\x00\x41\x00\x0b\x05\x01"), api.ErrShort}, {section(11, "\x02\x00\x41\x00\x0b\x01\x01"), api.ErrShort}, {section(11, "\x02\x00\x41\x00\x0b\x00\x01"), api.ErrType},
		{section(10, "\x01\x03\x41"), api.ErrShort}, {section(10, "\x01\x01\x41"), api.ErrLimit}, {section(10, "\x01\x05\x01\x41\x7f\x05\x0b"), api.ErrLimit}, {section(10, "\x01\x04\x00\x05\x0b\x00"), api.ErrForm}, {section(10, "\x02\x03\x00\x0b\x00\x05"), api.ErrForm}, {section(10, "\x02\x02\x00\x0b\x05"), api.ErrShort}, {section(10, "\x02\x01\x41\x05"), api.ErrLimit}, {section(10, "\x81\x01"), api.ErrLimit},
		{section(10, "\x01\x02\x00\x0b") + section(11, "\x01\x01"), api.ErrType}, {section(10, "\x01\x02\x00\x0b\x00") + section(11, "\x01\x01"), api.ErrForm}, {section(3, "\x01\x00") + section(8, ""), api.ErrShort},
	} {
		fails(t, module(x.s), x.e)
	}
}

// P8.1, P8.4: one byte of a module with something of everything is another one.
func TestDecodeOfEachByteChanged(t *testing.T) {
	parts, m := full()
	whole := module(parts...)
	others := 0
	for k := range whole {
		for c := range 256 {
			b := bytes.Clone(whole)
			b[k] = byte(c)
			decodeHeld(t, b)
			if n, e := Decode(b); e == api.OK && !equal(n, m) {
				others++
				if Same(n, m) {
					t.Errorf("%v and %v are the same", n, m)
				}
			}
		}
		decodeHeld(t, append(whole[:k:k], whole[k+1:]...))
		decodeHeld(t, slices.Concat(whole[:k], []byte{0}, whole[k:]))
		decodeHeld(t, whole[:k])
	}
	if others < 1000 {
		t.Errorf("just %d of them are a module", others)
	}
}

// everyBytes calls f with all lots of these bytes, of up to n.
func everyBytes(from string, n int, f func(string)) {
	var b []byte
	var more func()
	more = func() {
		f(string(b))
		if len(b) == n {
			return
		}
		for k := range len(from) {
			b = append(b, from[k])
			more()
			b = b[:len(b)-1]
		}
	}
	more()
}

// P8.1, P8.4: all short lots of bytes that mean something in each section, held against the words.
func TestDecodeOfAllShort(t *testing.T) {
	for id, from := range []string{"\x00\x01", "\x00\x01\x02\x60\x7f\x11", "\x00\x01\x02\x03\x04\x70\x7f", "\x00\x01\x02\x80", "\x00\x01\x02\x70\x80", "\x00\x01\x02\x80", "\x00\x01\x7f\x23\x41\x0b", "\x00\x01\x03\x04a", "\x00\x01\x80", "\x00\x01\x02\x41\x0b", "\x00\x01\x02\x41\x7f\x0b", "\x00\x01\x02\x42\x0b"} {
		everyBytes(from, 5, func(s string) {
			decodeHeld(t, module(section(id, s)))
			if id == 10 {
				decodeHeld(t, module(section(3, "\x01\x00"), section(id, s)))
			}
		})
	}
	everyBytes("\x00\x01\x02\x41\x7f\x0b", 6, func(s string) { decodeHeld(t, withCode(s)) })
}

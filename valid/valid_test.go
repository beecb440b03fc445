package valid

import (
	"bytes"
	"math"
	"slices"
	"strconv"
	"testing"

	"avocet/api"
)

// front lays something ahead of a list.
func front[T any](l *[]T, x ...T) { *l = slices.Concat(x, *l) }

// span is limits of both bounds.
func span(least, most int) api.Limits { return api.Limits{Min: least, Max: most, HasMax: true} }

func atLeast(n int) api.Limits { return api.Limits{Min: n} }

// in is an import of limits.
func in(kind int, l api.Limits) api.Import { return api.Import{Kind: kind, Lim: l} }

// spoil is what makes a module one that may not be, and why.
type spoil struct {
	name string
	e    api.Errno
	do   func(*api.Module)
}

// spoils are of all kinds, in the order in which they are told. What one of them lays into a list lies ahead of what is there.
func spoils() []spoil {
	return slices.Concat(typeSpoils(), roomSpoils(), globalSpoils(), exportSpoils(), segmentSpoils(), codeSpoils())
}

func typeSpoils() []spoil {
	return []spoil{
		{"a kind that is none", api.ErrArg, func(m *api.Module) { front(&m.Exports, api.Export{Kind: 4}) }},
		{"a type of an import", api.ErrName, func(m *api.Module) {
			m.Imports[slices.IndexFunc(m.Imports, func(i api.Import) bool { return i.Name == "k" })].Type = 3
		}},
		{"a type of a function", api.ErrName, func(m *api.Module) { m.Funcs[2] = 3 }},
	}
}

func roomSpoils() []spoil {
	return []spoil{
		{"bounds of an imported table", api.ErrType, func(m *api.Module) { front(&m.Imports, in(1, span(2, 1))) }},
		{"an imported table of too many", api.ErrLimit, func(m *api.Module) { front(&m.Imports, in(1, atLeast(257))) }},
		{"bounds of a table", api.ErrType, func(m *api.Module) { front(&m.Tables, span(300, 299)) }},
		{"a table of too many", api.ErrLimit, func(m *api.Module) { front(&m.Tables, span(257, 257)) }},
		{"bounds of an imported memory", api.ErrType, func(m *api.Module) { front(&m.Imports, in(2, span(6, 5))) }},
		{"an imported memory of very many", api.ErrType, func(m *api.Module) { front(&m.Imports, in(2, span(0, 65537))) }},
		{"an imported memory of too many", api.ErrLimit, func(m *api.Module) { front(&m.Imports, in(2, span(5, 5))) }},
		{"bounds of a memory", api.ErrType, func(m *api.Module) { front(&m.Mems, span(1, 0)) }},
		{"a memory of too many", api.ErrLimit, func(m *api.Module) { front(&m.Mems, atLeast(65536)) }},
		{"a memory of very many", api.ErrType, func(m *api.Module) { front(&m.Mems, atLeast(65537)) }},
		{"two tables", api.ErrType, func(m *api.Module) { front(&m.Tables, atLeast(0), atLeast(256)) }},
		{"two memories", api.ErrType, func(m *api.Module) { front(&m.Mems, atLeast(0), atLeast(4)) }},
	}
}

func globalSpoils() []spoil {
	as := func(v byte, i api.Instr) func(*api.Module) {
		return func(m *api.Module) { front(&m.Globals, api.GlobalDef{Val: v, Init: i}) }
	}
	return []spoil{
		{"a global of an own one", api.ErrName, as(127, global(3))},
		{"a global of one that is Mut", api.ErrType, as(126, global(1))},
		{"a global of none", api.ErrName, as(126, global(1<<32-1))},
		{"a global of another type", api.ErrType, as(126, global(0))},
		{"a global of what is behind it", api.ErrName, as(127, global(4))},
		{"a global of another constant", api.ErrType, as(127, i64(0))},
	}
}

func exportSpoils() []spoil {
	of := func(name string, kind, n int) func(*api.Module) {
		return func(m *api.Module) { front(&m.Exports, api.Export{Name: name, Kind: kind, Index: n}) }
	}
	twice := func(name string, kind int) func(*api.Module) {
		return func(m *api.Module) { front(&m.Exports, api.Export{Name: name}, api.Export{Name: name, Kind: kind}) }
	}
	return []spoil{
		{"an export of no function", api.ErrName, of("a", 0, 5)},
		{"an export of one name", api.ErrType, twice("run", 0)},
		{"an export of no table", api.ErrName, of("b", 1, 90)},
		{"an export of one name, of another kind", api.ErrType, twice("x", 3)},
		{"an export of no memory", api.ErrName, of("c", 2, 90)},
		{"an export of no name twice", api.ErrType, twice("", 0)},
		{"an export of no global", api.ErrName, of("d", 3, 90)},
	}
}

func segmentSpoils() []spoil {
	elem := func(i api.Instr, l ...int) func(*api.Module) {
		return func(m *api.Module) { front(&m.Elems, api.Elem{Offset: i, Funcs: l}) }
	}
	data := func(i api.Instr) func(*api.Module) {
		return func(m *api.Module) { front(&m.Datas, api.Data{Offset: i}) }
	}
	return []spoil{
		{"a start of nothing", api.ErrName, func(m *api.Module) { m.Start = 5 }},
		{"a start that takes", api.ErrType, func(m *api.Module) { m.Start = 4 }},
		{"elements of no table", api.ErrName, func(m *api.Module) { m.Tables = nil; without(m, 1) }},
		{"elements from an I64 on", api.ErrType, elem(i64(0))},
		{"elements from an own global on", api.ErrName, elem(global(3))},
		{"elements from a global that is Mut on", api.ErrType, elem(global(1))},
		{"elements of no function", api.ErrName, elem(i32(0), 0, 5)},
		{"elements from a global of an I64 on", api.ErrType, elem(global(2))},
		{"data of no memory", api.ErrName, func(m *api.Module) { m.Mems = nil; without(m, 2) }},
		{"data from an I64 on", api.ErrType, data(i64(0))},
		{"data from an own global on", api.ErrName, data(global(3))},
		{"data from a global that is Mut on", api.ErrType, data(global(1))},
		{"data from a global that is none on", api.ErrName, data(global(99))},
		{"data from a global of an I64 on", api.ErrType, data(global(2))},
	}
}

func codeSpoils() []spoil {
	return []spoil{
		{"a code of too many locals", api.ErrLimit, func(m *api.Module) { m.Codes[0].Locals = bytes.Repeat(vals("i"), 64) }},
		{"a body that leaves nothing", api.ErrType, func(m *api.Module) { m.Codes[0].Body = []api.Instr{{Op: 1}} }},
		{"a body that names what is none", api.ErrName, func(m *api.Module) { m.Codes[1].Body = []api.Instr{{Op: 16, A: 5}} }},
		{"another body that leaves nothing", api.ErrType, func(m *api.Module) { m.Codes[2].Body = nil }},
	}
}

// without is a module that neither imports nor exports anything of a kind.
func without(m *api.Module, kind int) {
	m.Imports = slices.DeleteFunc(m.Imports, func(i api.Import) bool { return i.Kind == kind })
	m.Exports = slices.DeleteFunc(m.Exports, func(x api.Export) bool { return x.Kind == kind })
}

// The chapter's example: a module of nothing is valid.
func TestExample(t *testing.T) {
	tells(t, api.Module{Start: -1}, api.OK)
	if m, e := loads(t, []byte("\x00asm\x01\x00\x00\x00")); e != api.OK || !equal(m, api.Module{Start: -1}) {
		t.Errorf("%v, %d", m, e)
	}
}

// P11.2: what may be.
func TestWhatMayBe(t *testing.T) {
	tells(t, full(), api.OK)
	tells(t, other(), api.OK)
	tells(t, api.Module{Types: make([]api.FuncType, 1), Funcs: []int{0}, Codes: make([]api.Code, 1)}, api.OK)
	tells(t, api.Module{Types: make([]api.FuncType, 1), Imports: make([]api.Import, 1)}, api.OK)
}

// P11.2: each kind of error alone.
func TestEachSpoil(t *testing.T) {
	for _, x := range spoils() {
		m := full()
		x.do(&m)
		if e := held(t, m); e != x.e {
			t.Errorf("%s: %d; want %d", x.name, e, x.e)
		}
	}
}

// P11.2: of two errors the one that comes first is told.
func TestEachTwoSpoils(t *testing.T) {
	all := spoils()
	for k, x := range all {
		for _, y := range all[k+1:] {
			m := full()
			y.do(&m)
			x.do(&m)
			if e := held(t, m); e != x.e {
				t.Errorf("%s, and %s: %d; want %d", x.name, y.name, e, x.e)
			}
		}
	}
}

// P11.2: a module that is not Sane is ErrArg, whatever else is wrong with it.
func TestWhatIsNotSane(t *testing.T) {
	for k, spoiled := range []func(*api.Module){
		func(m *api.Module) { m.Start = -2 }, func(m *api.Module) { m.Start = 1 << 32 }, func(m *api.Module) { m.Funcs = append(m.Funcs, 0) }, func(m *api.Module) { m.Codes = m.Codes[:2] }, func(m *api.Module) { m.Codes = append(m.Codes, api.Code{}) },
		func(m *api.Module) { m.Types[0].Results = vals("ii") }, func(m *api.Module) { m.Types[1].Params = vals("5") }, func(m *api.Module) { m.Imports[0].Type = -1 }, func(m *api.Module) { m.Imports[0].Val = 127 }, func(m *api.Module) { m.Imports[1].Val = 5 }, func(m *api.Module) { m.Imports[1].Kind = 4 },
		func(m *api.Module) { m.Imports[1].Name = "\xff" }, func(m *api.Module) { m.Funcs[0] = -1 }, func(m *api.Module) { m.Tables[0].Min = -1 }, func(m *api.Module) { m.Tables[0].Max = 1 }, func(m *api.Module) { m.Imports[2].Lim.Max = 1 << 32 }, func(m *api.Module) { m.Globals[0].Init.Op = 1 },
		func(m *api.Module) { m.Globals[0].Val = 0 }, func(m *api.Module) { m.Globals[0].Init.A = -1 }, func(m *api.Module) { m.Exports[0].Kind = -1 }, func(m *api.Module) { m.Exports[0].Index = -1 }, func(m *api.Module) { m.Elems[0].Funcs[0] = -1 }, func(m *api.Module) { m.Elems[1].Offset.K = 1 << 32 },
		func(m *api.Module) { m.Datas[0].Offset.B = 1 }, func(m *api.Module) { m.Codes[0].Locals = bytes.Repeat(vals("i"), 65) }, func(m *api.Module) { m.Codes[0].Locals = vals("?") }, func(m *api.Module) { m.Codes[0].Body = []api.Instr{{Op: 11}} }, func(m *api.Module) { m.Datas[0].Bytes = make([]byte, 65536) },
		func(m *api.Module) { m.Imports = slices.Repeat([]api.Import{{}}, 65) }, func(m *api.Module) { m.Types = make([]api.FuncType, 65) }, func(m *api.Module) { m.Tables = make([]api.Limits, 33) },
	} {
		m := full()
		spoiled(&m)
		if e := held(t, m); e != api.ErrArg {
			t.Errorf("%d: %d", k, e)
		}
		m = full()
		for _, x := range slices.Backward(spoils()) {
			if x.name != "elements of no table" && x.name != "data of no memory" {
				x.do(&m)
			}
		}
		tells(t, m, api.ErrArg)
	}
}

// P11.2: types of imports and then of functions.
func TestTypes(t *testing.T) {
	for n := range 3 {
		for k, right := range []api.Errno{api.OK, api.ErrName, api.ErrName} {
			of := n - 1 + k // the greatest that may be, and two more
			if of >= 0 {
				tells(t, with(func(m *api.Module) { m.Types, m.Imports = make([]api.FuncType, n), []api.Import{{Type: of}} }), right)
				tells(t, with(func(m *api.Module) {
					m.Types, m.Funcs, m.Codes = make([]api.FuncType, n), []int{of}, make([]api.Code, 1)
				}), right)
			}
		}
	}
	for _, n := range []int{3, 4, 64, 1 << 31, 1<<32 - 1} {
		m := full()
		m.Imports[0].Type = n
		tells(t, m, api.ErrName)
		m = full()
		m.Funcs[0] = n
		tells(t, m, api.ErrName)
	}
	m := full()
	m.Types = m.Types[:2]
	tells(t, m, api.ErrName)
	tells(t, with(func(m *api.Module) { m.Imports = []api.Import{{Kind: 1}, {Kind: 2}, {Kind: 3, Val: 127}} }), api.OK) // these have no type
}

// limitsFrom are how limits stand in a module: imported, or its own.
func limitsFrom(kind int, l ...api.Limits) []api.Module {
	own := with(func(m *api.Module) {
		if kind == api.Table {
			m.Tables = l
		} else {
			m.Mems = l
		}
	})
	imported := with(func(m *api.Module) {
		for _, x := range l {
			m.Imports = append(m.Imports, in(kind, x))
		}
	})
	return []api.Module{own, imported}
}

// P11.2: the limits of tables, and their bounds.
func TestTableLimits(t *testing.T) {
	for _, x := range []struct {
		l api.Limits
		e api.Errno
	}{
		{atLeast(0), api.OK}, {atLeast(1), api.OK}, {atLeast(255), api.OK}, {atLeast(256), api.OK}, {atLeast(257), api.ErrLimit}, {atLeast(65537), api.ErrLimit}, {atLeast(1<<32 - 1), api.ErrLimit},
		{span(0, 0), api.OK}, {span(1, 0), api.ErrType}, {span(1, 1), api.OK}, {span(5, 4), api.ErrType}, {span(256, 256), api.OK}, {span(256, 255), api.ErrType}, {span(256, 257), api.OK}, {span(0, 65536), api.OK}, {span(0, 65537), api.OK}, {span(256, 1<<32-1), api.OK},
		{span(257, 257), api.ErrLimit}, {span(257, 1<<32-1), api.ErrLimit}, {span(257, 256), api.ErrType}, {span(1<<32-1, 1<<32-2), api.ErrType}, {span(1<<32-1, 0), api.ErrType}, {span(1<<32-1, 1<<32-1), api.ErrLimit},
	} {
		for _, m := range limitsFrom(api.Table, x.l) {
			tells(t, m, x.e)
		}
	}
}

// P11.2: the limits of memories, and their bounds.
func TestMemoryLimits(t *testing.T) {
	for _, x := range []struct {
		l api.Limits
		e api.Errno
	}{
		{atLeast(0), api.OK}, {atLeast(1), api.OK}, {atLeast(3), api.OK}, {atLeast(4), api.OK}, {atLeast(5), api.ErrLimit}, {atLeast(65535), api.ErrLimit}, {atLeast(65536), api.ErrLimit}, {atLeast(65537), api.ErrType}, {atLeast(1<<32 - 1), api.ErrType},
		{span(0, 0), api.OK}, {span(1, 0), api.ErrType}, {span(4, 4), api.OK}, {span(4, 3), api.ErrType}, {span(4, 5), api.OK}, {span(0, 65535), api.OK}, {span(0, 65536), api.OK}, {span(4, 65536), api.OK}, {span(0, 65537), api.ErrType}, {span(4, 65537), api.ErrType}, {span(0, 1<<32-1), api.ErrType},
		{span(5, 5), api.ErrLimit}, {span(5, 65536), api.ErrLimit}, {span(65536, 65536), api.ErrLimit}, {span(5, 4), api.ErrType}, {span(5, 65537), api.ErrType}, {span(65536, 65535), api.ErrType}, {span(65537, 65537), api.ErrType}, {span(65537, 65536), api.ErrType},
	} {
		for _, m := range limitsFrom(api.Memory, x.l) {
			tells(t, m, x.e)
		}
	}
}

// P11.2: limits are asked for one by one, and only then how many there are.
func TestMoreThanOne(t *testing.T) {
	for _, kind := range []int{api.Table, api.Memory} {
		for _, x := range []struct {
			l []api.Limits
			e api.Errno
		}{
			{[]api.Limits{{}, {}}, api.ErrType}, {[]api.Limits{{}, {}, {}}, api.ErrType}, {[]api.Limits{{}, atLeast(300)}, api.ErrLimit}, {[]api.Limits{atLeast(300), {}}, api.ErrLimit}, {[]api.Limits{{}, span(3, 2)}, api.ErrType},
			{[]api.Limits{atLeast(300), span(3, 2)}, api.ErrLimit}, {[]api.Limits{span(3, 2), atLeast(300)}, api.ErrType}, {[]api.Limits{span(3, 3), {}, {}, atLeast(300)}, api.ErrLimit},
		} {
			for _, m := range limitsFrom(kind, x.l...) {
				tells(t, m, x.e)
			}
			both := limitsFrom(kind, x.l[1:]...)[0]
			both.Imports = limitsFrom(kind, x.l[0])[1].Imports
			tells(t, both, x.e)
		}
	}
	for _, kinds := range [][2]int{{1, 2}, {2, 1}} {
		m := limitsFrom(kinds[0], atLeast(1))[0]
		m.Imports = []api.Import{in(kinds[1], atLeast(1))}
		tells(t, m, api.OK)
	}
	tells(t, with(func(m *api.Module) { m.Tables, m.Mems = make([]api.Limits, 1), make([]api.Limits, 1) }), api.OK)
	tells(t, with(func(m *api.Module) { m.Tables, m.Mems = make([]api.Limits, 2), []api.Limits{{Min: 5}} }), api.ErrLimit)
	tells(t, with(func(m *api.Module) { m.Mems, m.Tables = make([]api.Limits, 2), []api.Limits{{Min: 257}} }), api.ErrLimit)
}

// P11.2: what a module's own globals begin as.
func TestInits(t *testing.T) {
	for _, x := range []struct {
		v byte
		i api.Instr
		e api.Errno
	}{
		{127, i32(0), api.OK}, {127, i32(1<<32 - 1), api.OK}, {126, i32(0), api.ErrType}, {126, i64(0), api.OK}, {126, i64(1<<64 - 1), api.OK}, {127, i64(0), api.ErrType},
		{127, global(0), api.OK}, {126, global(0), api.ErrType}, {126, global(1), api.ErrType}, {127, global(1), api.ErrType}, {126, global(2), api.OK}, {127, global(2), api.ErrType}, {127, global(3), api.ErrName}, {126, global(5), api.ErrName}, {127, global(7), api.ErrName}, {127, global(1<<32 - 1), api.ErrName},
	} {
		for _, mut := range []bool{false, true} {
			for at := range 4 {
				m := full()
				m.Globals[at].Val, m.Globals[at].Mut, m.Globals[at].Init = x.v, mut, x.i
				tells(t, m, x.e)
			}
		}
	}
	none := with(func(m *api.Module) {
		m.Globals = []api.GlobalDef{{Val: 127, Init: i32(1)}, {Val: 127, Init: global(0)}}
	})
	tells(t, none, api.ErrName)
}

// P11.2: exports, of each kind, and by their names.
func TestExports(t *testing.T) {
	for kind, n := range []int{5, 1, 1, 7} {
		for _, at := range []int{0, n - 1, n, n + 1, 1<<32 - 1} {
			m := full()
			m.Exports = append(m.Exports, api.Export{Name: "more", Kind: kind, Index: at})
			right := api.OK
			if at >= n {
				right = api.ErrName
			}
			tells(t, m, right)
		}
		tells(t, with(func(m *api.Module) { m.Exports = []api.Export{{Kind: kind}} }), api.ErrName)
	}
	export := func(right api.Errno, l ...api.Export) {
		t.Helper()
		m := full()
		m.Exports = l
		tells(t, m, right)
	}
	export(api.OK, api.Export{Name: "a"}, api.Export{Name: "A"}, api.Export{Name: ""}, api.Export{Name: "a "}, api.Export{Name: "\x00"}, api.Export{Name: "é"}, api.Export{Name: "e"})
	for _, name := range []string{"", "a", "é", "\x00"} {
		for kind := range 4 {
			export(api.ErrType, api.Export{Name: name}, api.Export{Name: name, Kind: kind})
			export(api.ErrType, api.Export{Name: name, Kind: kind}, api.Export{Name: "b"}, api.Export{Name: name, Kind: 3, Index: 1})
			export(api.ErrName, api.Export{Name: name}, api.Export{Name: name, Kind: kind, Index: 9})
			export(api.ErrName, api.Export{Name: name, Kind: kind, Index: 9}, api.Export{Name: name})
			export(api.ErrType, api.Export{Name: name}, api.Export{Name: name}, api.Export{Name: "b", Kind: kind, Index: 9})
			export(api.ErrName, api.Export{Name: name}, api.Export{Name: "b", Kind: kind, Index: 9}, api.Export{Name: name})
		}
	}
	var l []api.Export
	for n := range 64 {
		l = append(l, api.Export{Name: "of " + strconv.Itoa(n)})
	}
	export(api.OK, l...)
	l[63].Name = l[0].Name
	export(api.ErrType, l...)
	tells(t, with(func(m *api.Module) {
		m.Types, m.Imports, m.Exports = make([]api.FuncType, 1), []api.Import{{Mod: "a", Name: "b"}, {Mod: "a", Name: "b"}}, []api.Export{{Name: "a"}, {Name: "b"}}
	}), api.OK) // imports' names are not exports'
}

// P11.2: what a module may start with.
func TestStart(t *testing.T) {
	for n, right := range []api.Errno{api.ErrType, api.OK, api.ErrType, api.OK, api.ErrType, api.ErrName, api.ErrName} {
		m := full()
		m.Start = n
		tells(t, m, right)
	}
	for _, x := range []struct {
		t api.FuncType
		e api.Errno
	}{{fn("", ""), api.OK}, {fn("i", ""), api.ErrType}, {fn("", "i"), api.ErrType}, {fn("l", ""), api.ErrType}, {fn("", "l"), api.ErrType}, {fn("i", "i"), api.ErrType}, {fn("ilililililililil", ""), api.ErrType}} {
		own := with(func(m *api.Module) {
			m.Types, m.Funcs, m.Codes = []api.FuncType{x.t}, []int{0}, []api.Code{{Body: []api.Instr{{Op: 0}}}}
			m.Start = 0
		})
		tells(t, own, x.e)
		tells(t, with(func(m *api.Module) { m.Types, m.Imports, m.Start = []api.FuncType{x.t}, make([]api.Import, 1), 0 }), x.e)
	}
	for _, n := range []int{0, 1, 127, 1<<32 - 1} {
		tells(t, api.Module{Start: n}, api.ErrName)
		tells(t, api.Module{Start: n, Types: make([]api.FuncType, 1)}, api.ErrName)
	}
	m := full()
	m.Start = -1
	tells(t, m, api.OK)
}

// P11.2: elements, one by one, and of each its table, its Offset, and then its functions.
func TestElems(t *testing.T) {
	for _, of := range []func() api.Module{full, other} {
		m := of()
		elems := func(right api.Errno, l ...api.Elem) {
			t.Helper()
			x := of()
			x.Elems = l
			tells(t, x, right)
		}
		n := len(m.Funcs)
		if len(m.Imports) > 1 {
			n += 2
		}
		elems(api.OK)
		elems(api.OK, api.Elem{Offset: i32(0)}, api.Elem{Offset: i32(0)}, api.Elem{Offset: i32(1<<32 - 1), Funcs: []int{0, n - 1, 0, 1}})
		for _, f := range []int{n, n + 1, 1<<32 - 1} {
			elems(api.ErrName, api.Elem{Offset: i32(0), Funcs: []int{f}})
			elems(api.ErrName, api.Elem{Offset: i32(0), Funcs: []int{0}}, api.Elem{Offset: i32(0), Funcs: []int{0, 1, f}})
			elems(api.ErrType, api.Elem{Offset: i64(0), Funcs: []int{f}})
			elems(api.ErrName, api.Elem{Offset: i32(0), Funcs: []int{f, 0}}, api.Elem{Offset: i64(0)})
			elems(api.ErrType, api.Elem{Offset: i64(0)}, api.Elem{Offset: i32(0), Funcs: []int{f}})
		}
		elems(api.ErrType, api.Elem{Offset: i64(0)}, api.Elem{Offset: global(99)})
		elems(api.ErrName, api.Elem{Offset: global(99)}, api.Elem{Offset: i64(0)})
		many := slices.Repeat([]int{n - 1}, 256)
		elems(api.OK, api.Elem{Offset: i32(0), Funcs: many})
		elems(api.ErrName, api.Elem{Offset: i32(0), Funcs: append(slices.Clone(many[:255]), n)})
	}
	for _, x := range []api.Elem{{Offset: i32(0)}, {Offset: i32(0), Funcs: []int{0}}, {Offset: i64(0)}, {Offset: global(1)}, {Offset: global(0)}} {
		tells(t, with(func(m *api.Module) { m.Elems = []api.Elem{x} }), api.ErrName)
		tells(t, with(func(m *api.Module) { m.Elems, m.Mems = []api.Elem{x}, make([]api.Limits, 1) }), api.ErrName)
		m := full()
		m.Elems, m.Tables = []api.Elem{x}, nil
		without(&m, api.Table)
		tells(t, m, api.ErrName)
	}
	for n, right := range []api.Errno{api.OK, api.ErrType, api.ErrType, api.ErrName, api.ErrName, api.ErrName, api.ErrName, api.ErrName} {
		m := full()
		m.Elems[1].Offset = global(n)
		tells(t, m, right)
	}
}

// P11.2: data, one by one, and of each its memory, and then its Offset.
func TestDatas(t *testing.T) {
	for _, of := range []func() api.Module{full, other} {
		datas := func(right api.Errno, l ...api.Data) {
			t.Helper()
			m := of()
			m.Datas = l
			tells(t, m, right)
		}
		datas(api.OK)
		datas(api.OK, api.Data{Offset: i32(0)}, api.Data{Offset: i32(1<<32 - 1), Bytes: make([]byte, 1000)})
		datas(api.ErrType, api.Data{Offset: i64(0)})
		datas(api.ErrType, api.Data{Offset: i32(0)}, api.Data{Offset: i64(0), Bytes: []byte("a")})
		datas(api.ErrType, api.Data{Offset: i64(0)}, api.Data{Offset: global(99)})
		datas(api.ErrName, api.Data{Offset: global(99)}, api.Data{Offset: i64(0)})
	}
	for _, x := range []api.Data{{Offset: i32(0)}, {Offset: i32(0), Bytes: []byte("a")}, {Offset: i64(0)}, {Offset: global(1)}, {Offset: global(0)}} {
		tells(t, with(func(m *api.Module) { m.Datas = []api.Data{x} }), api.ErrName)
		tells(t, with(func(m *api.Module) { m.Datas, m.Tables = []api.Data{x}, make([]api.Limits, 1) }), api.ErrName)
	}
	for n, right := range []api.Errno{api.OK, api.ErrType, api.ErrType, api.ErrName, api.ErrName, api.ErrName, api.ErrName, api.ErrName} {
		m := full()
		m.Datas[1].Offset = global(n)
		tells(t, m, right)
	}
}

// P11.2: Locals and params are at most 64.
func TestLocals(t *testing.T) {
	for params := range 17 {
		for _, n := range []int{0, 1, 63 - params, 64 - params, 65 - params, 64} {
			m := with(func(m *api.Module) {
				m.Types, m.Funcs = []api.FuncType{{Params: bytes.Repeat(vals("l"), params)}}, []int{0, 0}
				m.Codes = []api.Code{{}, {Locals: bytes.Repeat(vals("i"), n)}}
			})
			right := api.OK
			if n+params > 64 {
				right = api.ErrLimit
			}
			if n <= 64 {
				tells(t, m, right)
				m.Codes[1].Body = []api.Instr{{Op: 26}} // a drop of nothing
				if right == api.OK {
					right = api.ErrType
				}
				tells(t, m, right)
				m.Codes[0].Body = m.Codes[1].Body
				tells(t, m, api.ErrType)
			}
		}
	}
	m := with(func(m *api.Module) {
		m.Types, m.Funcs = []api.FuncType{fn("i", "l")}, []int{0}
		m.Codes = []api.Code{{Locals: bytes.Repeat(vals("l"), 63), Body: []api.Instr{{Op: 32, A: 63}}}}
	})
	tells(t, m, api.OK)
	m.Codes[0].Body[0].A = 0
	tells(t, m, api.ErrType)
	m.Codes[0].Body[0].A = 64
	tells(t, m, api.ErrName)
}

// P11.2: what bodies may name, and that they fit.
func TestBodies(t *testing.T) {
	body := func(right api.Errno, of func() api.Module, l ...api.Instr) {
		t.Helper()
		for f := range 3 {
			m := of()
			m.Codes[f] = api.Code{Body: slices.Concat(l, []api.Instr{{Op: 0}})}
			tells(t, m, right)
		}
	}
	op := func(code, n int) api.Instr { return api.Instr{Op: code, A: n} }
	for _, of := range []func() api.Module{full, other} {
		body(api.OK, of)
		body(api.OK, of, i32(0), op(17, 0))
		body(api.OK, of, i32(0), i32(0), op(17, 1), op(26, 0))
	}
	body(api.ErrType, full, op(26, 0))
	body(api.ErrName, full, op(16, 5))
	body(api.OK, full, i32(0), op(16, 0), op(26, 0))
	body(api.OK, full, op(16, 1))
	body(api.OK, full, op(35, 6), op(36, 6))
	body(api.ErrName, full, op(35, 7))
	body(api.ErrType, full, op(35, 3), op(36, 3))
	body(api.OK, full, op(35, 1), op(36, 1))
	body(api.ErrName, full, op(17, 3))
	body(api.ErrName, full, op(12, 1))
	body(api.ErrName, other, op(35, 2))
	body(api.ErrName, other, op(16, 3))
	body(api.OK, full, op(63, 0), op(64, 0), op(26, 0))
	bare := func() api.Module {
		m := with(func(m *api.Module) {
			m.Types, m.Funcs, m.Codes = []api.FuncType{{}, fn("i", "i"), fn("", "l")}, []int{0, 1, 2}, make([]api.Code, 3)
		})
		m.Codes[1].Body, m.Codes[2].Body = []api.Instr{{Op: 32}}, []api.Instr{i64(0)}
		return m
	}
	tells(t, bare(), api.OK)
	body(api.OK, bare)
	body(api.ErrName, bare, op(63, 0))
	body(api.ErrName, bare, i32(0), op(17, 0))
	body(api.ErrName, bare, op(35, 0))
	body(api.ErrName, bare, i32(0), op(40, 0))
	body(api.OK, bare, op(16, 0), op(16, 2), op(26, 0))
	for f, results := range []string{"", "i", "l"} {
		for _, i := range []api.Instr{{Op: 1}, i32(1), i64(1)} {
			m := bare()
			m.Codes[f].Body = []api.Instr{i}
			right := api.ErrType
			if results == map[int]string{1: "", 65: "i", 66: "l"}[i.Op] {
				right = api.OK
			}
			tells(t, m, right)
		}
	}
}

// P1: whatever the numbers and lists are, all calls end, and none panics.
func TestOfWildModules(t *testing.T) {
	for _, m := range []api.Module{
		{}, {Start: math.MinInt}, {Start: math.MaxInt}, {Types: make([]api.FuncType, 100000)}, {Imports: make([]api.Import, 100000)}, {Imports: slices.Repeat([]api.Import{{Kind: 3}}, 100000)}, {Funcs: make([]int, 100000)},
		{Tables: make([]api.Limits, 100000), Mems: make([]api.Limits, 100000)}, {Globals: make([]api.GlobalDef, 100000)}, {Exports: make([]api.Export, 100000)}, {Elems: make([]api.Elem, 100000), Datas: make([]api.Data, 100000)},
		{Types: []api.FuncType{{Params: make([]byte, 100000), Results: make([]byte, 100000)}}, Funcs: []int{0}, Codes: []api.Code{{Locals: make([]byte, 100000), Body: make([]api.Instr, 100000)}}},
		{Start: -1, Exports: []api.Export{{Kind: math.MinInt, Index: math.MinInt}, {Kind: math.MaxInt, Index: math.MaxInt}}}, {Start: -1, Imports: []api.Import{{Kind: math.MinInt, Type: math.MinInt}}},
		{Start: -1, Funcs: wild(), Codes: make([]api.Code, len(wild()))}, {Start: -1, Elems: []api.Elem{{Offset: api.Instr{Op: math.MinInt, A: math.MaxInt, Labels: wild()}, Funcs: wild()}}},
	} {
		held(t, m)
		for _, n := range wild() {
			heldEnv(t, m, n)
			i := api.Instr{Op: 35, A: n, B: n, K: uint64(n), Labels: wild()}
			if e, right := Const(m, i, byte(n)), constByWords(m, i, byte(n)); e != right {
				t.Errorf("Const of the global %d = %d; want %d", n, e, right)
			}
		}
	}
}

// P11.2, W3: the most that bytes may hold is gone over as well: the deepest stacks, and the most functions.
func TestGreatModules(t *testing.T) {
	body := slices.Concat(slices.Repeat([]api.Instr{{Op: 63}}, 2048), slices.Repeat([]api.Instr{{Op: 26}}, 2048))
	m := with(func(m *api.Module) {
		m.Types, m.Mems = slices.Repeat([]api.FuncType{fn("iiiiiiiiiiiiiiii", "")}, 64), []api.Limits{{Min: 4}}
		m.Imports = slices.Repeat([]api.Import{{Type: 63}}, 64)
		m.Funcs, m.Codes = slices.Repeat([]int{63}, 128), make([]api.Code, 128)
		for k := range 10 {
			m.Codes[k] = api.Code{Locals: bytes.Repeat(vals("i"), 48), Body: body}
		}
	})
	tells(t, m, api.OK)
	m.Codes[9].Body = append(slices.Clone(body[:4095]), api.Instr{Op: 1})
	tells(t, m, api.ErrType)
	m.Codes[127].Locals = bytes.Repeat(vals("i"), 49)
	tells(t, m, api.ErrType)
	m.Codes[9].Body = body
	tells(t, m, api.ErrLimit)
}

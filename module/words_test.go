package module

import (
	"bytes"
	"math"
	"reflect"
	"slices"
	"testing"

	"avocet/api"
	"avocet/body"
	"avocet/instr"
	"avocet/leb"
	"avocet/sect"
	"avocet/types"
	"avocet/utf"
)

// Here stands the chapter written out once more, word by word and with errors handed on one by one, so that it shares nothing with what it is held against.

// listByWords is how many, and each.
func listByWords[T any](b []byte, at, most int, one func([]byte, int) (T, int, api.Errno)) ([]T, int, api.Errno) {
	n, at, e := leb.ReadU(b, at, 32)
	if e != api.OK {
		return nil, 0, e
	}
	if n > uint64(most) {
		return nil, 0, api.ErrLimit
	}
	var l []T
	for range n {
		x, behind, e := one(b, at)
		if e != api.OK {
			return nil, 0, e
		}
		l, at = append(l, x), behind
	}
	return l, at, api.OK
}

func numberByWords(b []byte, at int) (int, int, api.Errno) {
	v, at, e := leb.ReadU(b, at, 32)
	return int(v), at, e
}

// smallByWords is a byte, ErrForm above most.
func smallByWords(b []byte, at int, most byte) (int, int, api.Errno) {
	if at >= len(b) {
		return 0, 0, api.ErrShort
	}
	if b[at] > most {
		return 0, 0, api.ErrForm
	}
	return int(b[at]), at + 1, api.OK
}

func tableByWords(b []byte, at int) (api.Limits, int, api.Errno) {
	if at >= len(b) {
		return api.Limits{}, 0, api.ErrShort
	}
	if b[at] != 112 {
		return api.Limits{}, 0, api.ErrForm
	}
	return types.Limits(b, at+1)
}

// globalTypeByWords is a type, and whether it is Mut.
func globalTypeByWords(b []byte, at int) (byte, bool, int, api.Errno) {
	v, at, e := types.Val(b, at)
	if e != api.OK {
		return 0, false, 0, e
	}
	mut, at, e := smallByWords(b, at, 1)
	return v, mut == 1, at, e
}

func importByWords(b []byte, at int) (i api.Import, behind int, e api.Errno) {
	if i.Mod, at, e = utf.Name(b, at); e != api.OK {
		return
	}
	if i.Name, at, e = utf.Name(b, at); e != api.OK {
		return
	}
	if i.Kind, at, e = smallByWords(b, at, 3); e != api.OK {
		return
	}
	switch i.Kind {
	case 0:
		i.Type, behind, e = numberByWords(b, at)
	case 1:
		i.Lim, behind, e = tableByWords(b, at)
	case 2:
		i.Lim, behind, e = types.Limits(b, at)
	case 3:
		i.Val, i.Mut, behind, e = globalTypeByWords(b, at)
	}
	return
}

func expressionByWords(b []byte, at int) (api.Instr, int, api.Errno) {
	l, at, e := body.Read(b, at)
	if e != api.OK {
		return api.Instr{}, 0, e
	}
	if len(l) != 1 || !slices.Contains([]int{35, 65, 66}, l[0].Op) {
		return api.Instr{}, 0, api.ErrType
	}
	return l[0], at, api.OK
}

func globalByWords(b []byte, at int) (g api.GlobalDef, behind int, e api.Errno) {
	if g.Val, g.Mut, at, e = globalTypeByWords(b, at); e != api.OK {
		return
	}
	g.Init, behind, e = expressionByWords(b, at)
	return
}

func exportByWords(b []byte, at int) (x api.Export, behind int, e api.Errno) {
	if x.Name, at, e = utf.Name(b, at); e != api.OK {
		return
	}
	if x.Kind, at, e = smallByWords(b, at, 3); e != api.OK {
		return
	}
	x.Index, behind, e = numberByWords(b, at)
	return
}

// offsetByWords is a number, ErrType, if it is not 0; an expression.
func offsetByWords(b []byte, at int) (api.Instr, int, api.Errno) {
	n, at, e := numberByWords(b, at)
	if e != api.OK {
		return api.Instr{}, 0, e
	}
	if n != 0 {
		return api.Instr{}, 0, api.ErrType
	}
	return expressionByWords(b, at)
}

func elemByWords(b []byte, at int) (x api.Elem, behind int, e api.Errno) {
	if x.Offset, at, e = offsetByWords(b, at); e != api.OK {
		return
	}
	x.Funcs, behind, e = listByWords(b, at, 256, numberByWords)
	return
}

// someByWords is how many bytes, ErrShort, if fewer follow; these.
func someByWords(b []byte, at int) ([]byte, int, api.Errno) {
	n, at, e := numberByWords(b, at)
	if e != api.OK {
		return nil, 0, e
	}
	if len(b)-at < n {
		return nil, 0, api.ErrShort
	}
	return b[at : at+n], at + n, api.OK
}

func dataByWords(b []byte, at int) (d api.Data, behind int, e api.Errno) {
	if d.Offset, at, e = offsetByWords(b, at); e != api.OK {
		return
	}
	d.Bytes, behind, e = someByWords(b, at)
	return
}

func codeByWords(b []byte, at int) (c api.Code, behind int, e api.Errno) {
	in, behind, e := someByWords(b, at)
	if e != api.OK {
		return
	}
	runs, at, e := numberByWords(in, 0)
	if e != api.OK {
		return
	}
	if runs > 64 {
		return c, 0, api.ErrLimit
	}
	for ; runs > 0; runs-- {
		n, to, e := numberByWords(in, at)
		if e != api.OK {
			return c, 0, e
		}
		v, to, e := types.Val(in, to)
		if e != api.OK {
			return c, 0, e
		}
		if n+len(c.Locals) > 64 {
			return c, 0, api.ErrLimit
		}
		for ; n > 0; n-- {
			c.Locals = append(c.Locals, v)
		}
		at = to
	}
	if c.Body, at, e = body.Read(in, at); e != api.OK {
		return
	}
	if at < len(in) {
		e = api.ErrForm
	}
	return
}

// sectionByWords reads a section from its beginning, and tells the place behind what is read.
func sectionByWords(m *api.Module, id int, b []byte) (at int, e api.Errno) {
	switch id {
	case 1:
		m.Types, at, e = listByWords(b, 0, 64, types.Func)
	case 2:
		m.Imports, at, e = listByWords(b, 0, 64, importByWords)
	case 3:
		m.Funcs, at, e = listByWords(b, 0, 128, numberByWords)
	case 4:
		m.Tables, at, e = listByWords(b, 0, 32, tableByWords)
	case 5:
		m.Mems, at, e = listByWords(b, 0, 32, types.Limits)
	case 6:
		m.Globals, at, e = listByWords(b, 0, 64, globalByWords)
	case 7:
		m.Exports, at, e = listByWords(b, 0, 64, exportByWords)
	case 8:
		m.Start, at, e = numberByWords(b, 0)
	case 9:
		m.Elems, at, e = listByWords(b, 0, 32, elemByWords)
	case 10:
		m.Codes, at, e = listByWords(b, 0, 128, codeByWords)
	case 11:
		m.Datas, at, e = listByWords(b, 0, 32, dataByWords)
	}
	return
}

// decodeByWords is Decode, word by word of P8.1.
func decodeByWords(b []byte) (api.Module, api.Errno) {
	l, e := sect.Split(b)
	if e != api.OK {
		return api.Module{}, e
	}
	m := api.Module{Start: -1}
	for _, s := range l {
		if s.ID == 0 {
			continue
		}
		at, e := sectionByWords(&m, s.ID, s.Data)
		if e != api.OK {
			return api.Module{}, e
		}
		if at < len(s.Data) {
			return api.Module{}, api.ErrForm
		}
	}
	if len(m.Codes) != len(m.Funcs) {
		return api.Module{}, api.ErrForm
	}
	return m, api.OK
}

func isNumber(v int) bool { return v >= 0 && v < 1<<32 }

func isVal(v byte) bool { return v == 127 || v == 126 }

func isName(s string) bool {
	_, e := utf.Lay(nil, s)
	return e == api.OK
}

func areLimits(l api.Limits) bool {
	_, e := types.PutLimits(nil, l)
	return e == api.OK
}

func isExpression(i api.Instr) bool {
	return instr.Sane(i) && (i.Op == 35 || i.Op == 65 || i.Op == 66)
}

// isImport: what its kind has may be, and all else is 0.
func isImport(i api.Import) bool {
	if !isName(i.Mod) || !isName(i.Name) {
		return false
	}
	noType, noLim, noVal := i.Type == 0, i.Lim == api.Limits{}, i.Val == 0 && !i.Mut
	switch i.Kind {
	case 0:
		return isNumber(i.Type) && noLim && noVal
	case 1, 2:
		return areLimits(i.Lim) && noType && noVal
	case 3:
		return isVal(i.Val) && noType && noLim
	}
	return false
}

// all: is the list no longer than that, and may each of it be?
func all[T any](l []T, most int, may func(T) bool) bool {
	if len(l) > most {
		return false
	}
	for _, x := range l {
		if !may(x) {
			return false
		}
	}
	return true
}

// saneByWords is Sane, word by word of P8.2.
func saneByWords(m api.Module) bool {
	return all(m.Types, 64, types.Sane) && all(m.Imports, 64, isImport) && all(m.Funcs, 128, isNumber) &&
		all(m.Tables, 32, areLimits) && all(m.Mems, 32, areLimits) &&
		all(m.Globals, 64, func(g api.GlobalDef) bool { return isVal(g.Val) && isExpression(g.Init) }) &&
		all(m.Exports, 64, func(x api.Export) bool {
			return isName(x.Name) && x.Kind >= 0 && x.Kind <= 3 && isNumber(x.Index)
		}) &&
		(m.Start == -1 || isNumber(m.Start)) &&
		all(m.Elems, 32, func(x api.Elem) bool { return isExpression(x.Offset) && all(x.Funcs, 256, isNumber) }) &&
		all(m.Codes, 128, func(c api.Code) bool { return all(c.Locals, 64, isVal) && body.Sane(c.Body) }) &&
		all(m.Datas, 32, func(d api.Data) bool { return isExpression(d.Offset) }) &&
		len(m.Codes) == len(m.Funcs) && len(encodeByWords(m)) <= 65536
}

func u(v int) []byte { return leb.U(nil, uint64(v)) }

func lay(l []byte, e api.Errno) []byte {
	if e != api.OK {
		panic(e)
	}
	return l
}

func layFlag(on bool) []byte {
	if on {
		return []byte{1}
	}
	return []byte{0}
}

func layName(s string) []byte { return append(u(len(s)), s...) }

func layExpression(i api.Instr) []byte { return append(lay(instr.Put(nil, i)), 11) }

func layList[T any](l []T, one func(T) []byte) []byte {
	b := u(len(l))
	for _, x := range l {
		b = append(b, one(x)...)
	}
	return b
}

func layTable(l api.Limits) []byte { return append([]byte{112}, layLimits(l)...) }

func layLimits(l api.Limits) []byte { return lay(types.PutLimits(nil, l)) }

func layType(t api.FuncType) []byte { return lay(types.PutFunc(nil, t)) }

func layImport(i api.Import) []byte {
	b := slices.Concat(layName(i.Mod), layName(i.Name), []byte{byte(i.Kind)})
	switch i.Kind {
	case 0:
		return append(b, u(i.Type)...)
	case 1:
		return append(b, layTable(i.Lim)...)
	case 2:
		return append(b, layLimits(i.Lim)...)
	}
	return slices.Concat(b, []byte{i.Val}, layFlag(i.Mut))
}

func layGlobal(g api.GlobalDef) []byte {
	return slices.Concat([]byte{g.Val}, layFlag(g.Mut), layExpression(g.Init))
}

func layExport(x api.Export) []byte {
	return slices.Concat(layName(x.Name), []byte{byte(x.Kind)}, u(x.Index))
}

func layElem(x api.Elem) []byte {
	return slices.Concat([]byte{0}, layExpression(x.Offset), layList(x.Funcs, u))
}

func layData(d api.Data) []byte {
	return slices.Concat([]byte{0}, layExpression(d.Offset), u(len(d.Bytes)), d.Bytes)
}

// layCode takes the first run off, as long as there is one.
func layCode(c api.Code) []byte {
	var runs []byte
	n := 0
	for l := c.Locals; len(l) > 0; n++ {
		same := 1
		for same < len(l) && l[same] == l[0] {
			same++
		}
		runs = slices.Concat(runs, u(same), l[:1])
		l = l[same:]
	}
	b := slices.Concat(u(n), runs, lay(body.Put(nil, c.Body)))
	return append(u(len(b)), b...)
}

// encodeByWords is the bytes of a module that may be, also of one with too many bytes, word by word of P8.2.
func encodeByWords(m api.Module) []byte {
	b := []byte("\x00asm\x01\x00\x00\x00")
	add := func(id byte, n int, data []byte) {
		if n > 0 {
			b = slices.Concat(b, []byte{id}, u(len(data)), data)
		}
	}
	add(1, len(m.Types), layList(m.Types, layType))
	add(2, len(m.Imports), layList(m.Imports, layImport))
	add(3, len(m.Funcs), layList(m.Funcs, u))
	add(4, len(m.Tables), layList(m.Tables, layTable))
	add(5, len(m.Mems), layList(m.Mems, layLimits))
	add(6, len(m.Globals), layList(m.Globals, layGlobal))
	add(7, len(m.Exports), layList(m.Exports, layExport))
	if m.Start != -1 {
		add(8, 1, u(m.Start))
	}
	add(9, len(m.Elems), layList(m.Elems, layElem))
	add(10, len(m.Codes), layList(m.Codes, layCode))
	add(11, len(m.Datas), layList(m.Datas, layData))
	return b
}

// copied is a value that shares nothing with that one, and in which all lists without elements are nil.
func copied[T any](v T) T {
	return deep(reflect.ValueOf(v)).Interface().(T)
}

func deep(v reflect.Value) reflect.Value {
	out := reflect.New(v.Type()).Elem()
	switch v.Kind() {
	case reflect.Struct:
		for k := range v.NumField() {
			out.Field(k).Set(deep(v.Field(k)))
		}
	case reflect.Slice:
		if v.Len() > 0 {
			out.Set(reflect.MakeSlice(v.Type(), v.Len(), v.Len()))
		}
		for k := range v.Len() {
			out.Index(k).Set(deep(v.Index(k)))
		}
	default:
		out.Set(v)
	}
	return out
}

// equal holds two modules against each other part by part, so that it shares nothing with Same.
func equal(a, b api.Module) bool { return reflect.DeepEqual(copied(a), copied(b)) }

// isZero: is nothing told?
func isZero(m api.Module) bool { return m.Start == 0 && equal(m, api.Module{}) }

// decodeHeld holds Decode against the words, and Sane and Encode against what is decoded.
func decodeHeld(t *testing.T, b []byte) {
	t.Helper()
	kept := bytes.Clone(b)
	m, e := Decode(b)
	want, f := decodeByWords(b)
	if e != f || !equal(m, want) {
		t.Errorf("Decode(%.300q) = %.300v, %d; want %.300v, %d", b, m, e, want, f)
	}
	if !bytes.Equal(b, kept) {
		t.Errorf("Decode changed %.300q to %.300q", kept, b)
	}
	if e != api.OK {
		if !isZero(m) {
			t.Errorf("Decode(%.300q) = %.300v beside %d", b, m, e)
		}
		return
	}
	again, e := Encode(m)
	if !Sane(m) || e != api.OK || len(again) > len(b) {
		t.Errorf("Decode(%.300q) = %.300v, of which Sane is %v, Encode %.300q, %d", b, m, Sane(m), again, e)
	}
	if back, e := Decode(again); !equal(back, m) || e != api.OK {
		t.Errorf("Decode(%.300q), encoded and decoded: %.300v, %d", b, back, e)
	}
}

// encodeHeld holds Sane and Encode against the words, and Decode against what is encoded.
func encodeHeld(t *testing.T, m api.Module) {
	t.Helper()
	kept := copied(m)
	b, e := Encode(m)
	sane := saneByWords(m)
	if Sane(m) != sane {
		t.Errorf("Sane(%.300v) = %v", m, !sane)
	}
	if !equal(m, kept) {
		t.Errorf("%.300v is changed to %.300v", kept, m)
	}
	if !sane {
		if len(b) != 0 || e != api.ErrArg {
			t.Errorf("Encode(%.300v) = %.300q, %d; want ErrArg", m, b, e)
		}
		return
	}
	if want := encodeByWords(m); !bytes.Equal(b, want) || e != api.OK {
		t.Errorf("Encode(%.300v) = %.300q, %d; want %.300q", m, b, e, want)
	}
	if back, e := Decode(b); !equal(back, m) || !Same(back, m) || e != api.OK {
		t.Errorf("Encode(%.300v), decoded: %.300v, %d", m, back, e)
	}
}

// decodes: Decode answers that module.
func decodes(t *testing.T, b []byte, want api.Module) {
	t.Helper()
	if m, e := Decode(b); !equal(m, want) || e != api.OK {
		t.Errorf("Decode(%.300q) = %.300v, %d; want %.300v", b, m, e, want)
	}
	decodeHeld(t, b)
}

// fails: Decode answers that error, and nothing else.
func fails(t *testing.T, b []byte, want api.Errno) {
	t.Helper()
	if m, e := Decode(b); !isZero(m) || e != want {
		t.Errorf("Decode(%.300q) = %.300v, %d; want error %d", b, m, e, want)
	}
	decodeHeld(t, b)
}

// may: Sane answers that, and Encode is as it.
func may(t *testing.T, m api.Module, want bool) {
	t.Helper()
	if Sane(m) != want {
		t.Errorf("Sane(%.300v) = %v", m, !want)
	}
	encodeHeld(t, m)
}

// wrongNumbers are some that no number in bytes is.
func wrongNumbers() []int {
	return []int{-1, -2, -128, math.MinInt32, -1 << 32, -1<<32 + 1, math.MinInt, math.MinInt + 1, 1 << 32, 1<<32 + 1, 1 << 33, 1 << 62, math.MaxInt - 1, math.MaxInt}
}

// rightNumbers are some about where they need another byte, and the greatest.
func rightNumbers() []int {
	return []int{0, 1, 2, 63, 64, 127, 128, 129, 16383, 16384, 1<<21 - 1, 1 << 21, 1<<28 - 1, 1 << 28, math.MaxInt32, 1 << 31, math.MaxUint32 - 1, math.MaxUint32}
}

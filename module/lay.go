package module

import (
	"math"

	"avocet/api"
	"avocet/body"
	"avocet/leb"
	"avocet/sect"
	"avocet/types"
	"avocet/utf"
)

// laid is the bytes of a module. False: it may not be.
func laid(m api.Module) ([]byte, bool) {
	if len(m.Codes) != len(m.Funcs) {
		return nil, false
	}
	var l []sect.Sect
	for id := idTypes; id <= idDatas; id++ {
		var w writer
		w.section(m, id)
		if w.bad {
			return nil, false
		}
		if len(w.b) > 0 {
			l = append(l, sect.Sect{ID: id, Data: w.b})
		}
	}
	b, e := sect.Join(l)
	return b, e == api.OK
}

// writer lays what may be, and keeps whether anything may not. What it lays is never more than a module may have.
type writer struct {
	b   []byte
	bad bool
}

// section lays what a section says: nothing, if there is nothing to say.
func (w *writer) section(m api.Module, id int) {
	switch id {
	case idTypes:
		putSome(w, m.Types, api.MaxTypes, w.funcType)
	case idImports:
		putSome(w, m.Imports, maxImports, w.imported)
	case idFuncs:
		putSome(w, m.Funcs, api.MaxFuncs, w.number)
	case idTables:
		putSome(w, m.Tables, maxTables, w.table)
	case idMems:
		putSome(w, m.Mems, maxMems, w.limits)
	case idGlobals:
		putSome(w, m.Globals, api.MaxGlobals, w.global)
	case idExports:
		putSome(w, m.Exports, api.MaxExports, w.export)
	case idStart:
		w.start(m.Start)
	case idElems:
		putSome(w, m.Elems, api.MaxSegments, w.elem)
	case idCodes:
		putSome(w, m.Codes, api.MaxFuncs, w.code)
	case idDatas:
		putSome(w, m.Datas, api.MaxSegments, w.data)
	}
}

// putSome lays a list that isn't empty.
func putSome[T any](w *writer, l []T, most int, one func(T)) {
	if len(l) > 0 {
		putList(w, l, most, one)
	}
}

// putList lays how many there are, and each, up to the first one that may not be. A list that is too long isn't gone over.
func putList[T any](w *writer, l []T, most int, one func(T)) {
	w.need(len(l) <= most)
	w.number(len(l))
	for _, x := range l {
		if w.bad {
			return
		}
		one(x)
	}
}

// need keeps whether what is needed isn't so.
func (w *writer) need(ok bool) { w.bad = w.bad || !ok }

// put lays what a layer below answered, if it could, and if there is room for it.
func (w *writer) put(l []byte, e api.Errno) {
	fits := len(l) <= api.MaxBytes-len(w.b)
	w.need(e == api.OK && fits)
	if fits {
		w.b = append(w.b, l...)
	}
}

func (w *writer) number(v int) {
	w.need(v >= 0 && v <= math.MaxUint32)
	w.put(leb.U(nil, uint64(v)), api.OK)
}

func (w *writer) name(s string) { w.put(utf.Lay(nil, s)) }

func (w *writer) val(v byte) {
	_, _, e := types.Val([]byte{v}, 0)
	w.put([]byte{v}, e)
}

func (w *writer) flag(on bool) {
	if on {
		w.number(1)
	} else {
		w.number(0)
	}
}

func (w *writer) kind(k int) {
	w.need(k <= api.Global)
	w.number(k)
}

func (w *writer) funcType(t api.FuncType) { w.put(types.PutFunc(nil, t)) }

func (w *writer) limits(l api.Limits) { w.put(types.PutLimits(nil, l)) }

func (w *writer) table(l api.Limits) {
	w.put([]byte{tableForm}, api.OK)
	w.limits(l)
}

func (w *writer) imported(i api.Import) {
	w.need(i == ownOf(i))
	w.name(i.Mod)
	w.name(i.Name)
	w.kind(i.Kind)
	switch i.Kind {
	case api.Func:
		w.number(i.Type)
	case api.Table:
		w.table(i.Lim)
	case api.Memory:
		w.limits(i.Lim)
	case api.Global:
		w.val(i.Val)
		w.flag(i.Mut)
	}
}

// ownOf is an import with just what its kind has.
func ownOf(i api.Import) api.Import {
	own := api.Import{Mod: i.Mod, Name: i.Name, Kind: i.Kind}
	switch i.Kind {
	case api.Func:
		own.Type = i.Type
	case api.Table, api.Memory:
		own.Lim = i.Lim
	case api.Global:
		own.Val, own.Mut = i.Val, i.Mut
	}
	return own
}

func (w *writer) global(g api.GlobalDef) {
	w.val(g.Val)
	w.flag(g.Mut)
	w.expression(g.Init)
}

func (w *writer) export(x api.Export) {
	w.name(x.Name)
	w.kind(x.Kind)
	w.number(x.Index)
}

func (w *writer) start(v int) {
	if v != noStart {
		w.number(v)
	}
}

func (w *writer) elem(x api.Elem) {
	w.number(0)
	w.expression(x.Offset)
	putList(w, x.Funcs, api.MaxElems, w.number)
}

func (w *writer) data(d api.Data) {
	w.number(0)
	w.expression(d.Offset)
	w.number(len(d.Bytes))
	w.put(d.Bytes, api.OK)
}

// code lays a function's locals and body, and ahead of them how many bytes they are.
func (w *writer) code(c api.Code) {
	var in writer
	in.locals(c.Locals)
	in.put(body.Put(nil, c.Body))
	w.need(!in.bad)
	w.number(len(in.b))
	w.put(in.b, api.OK)
}

// locals lays runs of them. How many they are is asked first, so that a long list isn't gone over.
func (w *writer) locals(l []byte) {
	w.need(len(l) <= api.MaxLocals)
	if w.bad {
		return
	}
	putList(w, Runs(l), maxRuns, w.run)
}

func (w *writer) run(r [2]int) {
	w.number(r[0])
	w.val(byte(r[1]))
}

func (w *writer) expression(i api.Instr) {
	w.need(isInitial(i.Op))
	w.put(body.Put(nil, []api.Instr{i}))
}

package module

import (
	"bytes"

	"avocet/api"
	"avocet/body"
	"avocet/leb"
	"avocet/sect"
	"avocet/types"
	"avocet/utf"
)

// fault is what a panic tells that ends all reading.
type fault struct{ e api.Errno }

// must ends all, if there is an error.
func must(e api.Errno) { need(e == api.OK, e) }

// need ends all with an error, if what is needed isn't so.
func need(ok bool, e api.Errno) {
	if !ok {
		panic(fault{e})
	}
}

// told is the error that what was recovered tells. Nothing but faults is ever thrown; if it were, the bytes would not be read either, and no call may panic.
func told(f any) api.Errno {
	switch f := f.(type) {
	case nil:
		return api.OK
	case fault:
		return f.e
	}
	return api.ErrForm
}

// read is the module that bytes are. What can't be read ends all by a panic, here and in all below.
func read(b []byte) api.Module {
	l, e := sect.Split(b)
	must(e)
	m := api.Module{Start: noStart}
	for _, s := range l {
		if s.ID == idCustom {
			continue
		}
		r := &reader{b: s.Data}
		r.section(&m, s.ID)
		r.end()
	}
	need(len(m.Codes) == len(m.Funcs), api.ErrForm)
	return m
}

// reader keeps its place in bytes. What it answers was read: nobody has to ask on the way.
type reader struct {
	b  []byte
	at int
}

// section reads what a section says.
func (r *reader) section(m *api.Module, id int) {
	switch id {
	case idTypes:
		m.Types = list(r, api.MaxTypes, r.funcType)
	case idImports:
		m.Imports = list(r, maxImports, r.imported)
	case idFuncs:
		m.Funcs = list(r, api.MaxFuncs, r.number)
	case idTables:
		m.Tables = list(r, maxTables, r.table)
	case idMems:
		m.Mems = list(r, maxMems, r.limits)
	case idGlobals:
		m.Globals = list(r, api.MaxGlobals, r.global)
	case idExports:
		m.Exports = list(r, api.MaxExports, r.export)
	case idStart:
		m.Start = r.number()
	case idElems:
		m.Elems = list(r, api.MaxSegments, r.elem)
	case idCodes:
		m.Codes = list(r, api.MaxFuncs, r.code)
	case idDatas:
		m.Datas = list(r, api.MaxSegments, r.data)
	}
}

// list reads how many there are, and each.
func list[T any](r *reader, most int, one func() T) []T {
	var l []T
	for range r.count(most) {
		l = append(l, one())
	}
	return l
}

// end asks that no bytes are left.
func (r *reader) end() { need(r.at == len(r.b), api.ErrForm) }

// next reads a byte.
func (r *reader) next() byte {
	need(r.at < len(r.b), api.ErrShort)
	c := r.b[r.at]
	r.at++
	return c
}

// upTo reads a byte that has to be that or less.
func (r *reader) upTo(most byte) byte {
	c := r.next()
	need(c <= most, api.ErrForm)
	return c
}

func (r *reader) kind() int { return int(r.upTo(api.Global)) }

func (r *reader) flag() bool { return r.upTo(1) == 1 }

func (r *reader) number() int {
	v, behind, e := leb.ReadU(r.b, r.at, digits)
	must(e)
	r.at = behind
	return int(v)
}

// count reads how many there are.
func (r *reader) count(most int) int {
	n := r.number()
	need(n <= most, api.ErrLimit)
	return n
}

// piece reads how many bytes there are, and these. They are the reader's own bytes, not new ones.
func (r *reader) piece() []byte {
	n := r.number()
	need(n <= len(r.b)-r.at, api.ErrShort)
	from := r.at
	r.at += n
	return r.b[from:r.at]
}

func (r *reader) name() string {
	s, behind, e := utf.Name(r.b, r.at)
	must(e)
	r.at = behind
	return s
}

func (r *reader) val() byte {
	v, behind, e := types.Val(r.b, r.at)
	must(e)
	r.at = behind
	return v
}

func (r *reader) funcType() api.FuncType {
	t, behind, e := types.Func(r.b, r.at)
	must(e)
	r.at = behind
	return t
}

func (r *reader) limits() api.Limits {
	l, behind, e := types.Limits(r.b, r.at)
	must(e)
	r.at = behind
	return l
}

func (r *reader) table() api.Limits {
	need(r.next() == tableForm, api.ErrForm)
	return r.limits()
}

func (r *reader) imported() api.Import {
	var i api.Import
	i.Mod = r.name()
	i.Name = r.name()
	i.Kind = r.kind()
	switch i.Kind {
	case api.Func:
		i.Type = r.number()
	case api.Table:
		i.Lim = r.table()
	case api.Memory:
		i.Lim = r.limits()
	case api.Global:
		i.Val = r.val()
		i.Mut = r.flag()
	}
	return i
}

func (r *reader) global() api.GlobalDef {
	var g api.GlobalDef
	g.Val = r.val()
	g.Mut = r.flag()
	g.Init = r.expression()
	return g
}

func (r *reader) export() api.Export {
	var x api.Export
	x.Name = r.name()
	x.Kind = r.kind()
	x.Index = r.number()
	return x
}

// target reads the number of the table or memory that something is laid into, of which there is just one.
func (r *reader) target() { need(r.number() == 0, api.ErrType) }

func (r *reader) elem() api.Elem {
	var x api.Elem
	r.target()
	x.Offset = r.expression()
	x.Funcs = list(r, api.MaxElems, r.number)
	return x
}

func (r *reader) data() api.Data {
	var d api.Data
	r.target()
	d.Offset = r.expression()
	d.Bytes = bytes.Clone(r.piece())
	return d
}

// code reads a function's locals and body, that are all of the bytes told ahead of them.
func (r *reader) code() api.Code {
	in := &reader{b: r.piece()}
	var c api.Code
	c.Locals = in.locals()
	c.Body = in.body()
	in.end()
	return c
}

// locals reads runs of them. How many they are is asked ahead of laying them one behind the other, as a run may be of 2^32 - 1.
func (r *reader) locals() []byte {
	var l []byte
	for range r.count(maxRuns) {
		n := r.number()
		v := r.val()
		need(n <= api.MaxLocals-len(l), api.ErrLimit)
		l = append(l, bytes.Repeat([]byte{v}, n)...)
	}
	return l
}

func (r *reader) body() []api.Instr {
	l, behind, e := body.Read(r.b, r.at)
	must(e)
	r.at = behind
	return l
}

func (r *reader) expression() api.Instr {
	l := r.body()
	need(len(l) == 1 && isInitial(l[0].Op), api.ErrType)
	return l[0]
}

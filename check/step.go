package check

import (
	"bytes"
	"math/bits"

	"avocet/api"
	"avocet/instr"
	"avocet/ints"
	"avocet/stack"
)

// The codes that are told apart here. (Others are told by their kind, and operators by ints.)
const (
	codeUnreachable = 0
	codeNop         = 1
	codeBlock       = 2
	codeIf          = 4
	codeElse        = 5
	codeEnd         = 11
	codeBr          = 12
	codeBrIf        = 13
	codeReturn      = 15
	codeCall        = 16
	codeDrop        = 26
	codeSelect      = 27
	codeLocalGet    = 32
	codeLocalSet    = 33
	codeLocalTee    = 34
	codeGlobalGet   = 35
	codeGlobalSet   = 36
	codeMemorySize  = 63
)

const whichever = 0 // the type that a value has where nobody comes to

// checker is a stack that instructions change, one behind the other. It keeps the first fault, and nothing is done behind that, so that nobody has to ask on the way.
type checker struct {
	env   Env
	stack stack.Stack
	fault api.Errno
}

// take is an instruction, which changes the stack as its kind does.
func (c *checker) take(i api.Instr) {
	if !instr.Sane(i) {
		c.need(false, api.ErrArg)
		return
	}
	stepOf(instr.Kind(i.Op))(c, i)
}

// stepOf is what instructions of a kind do. (One that is Sane is of one of these.)
func stepOf(kind int) func(*checker, api.Instr) {
	return [...]func(*checker, api.Instr){
		instr.Plain:   (*checker).plain,
		instr.Block:   (*checker).block,
		instr.Index:   (*checker).index,
		instr.BrTable: (*checker).brTable,
		instr.CallInd: (*checker).callIndirect,
		instr.MemArg:  (*checker).access,
		instr.MemOp:   (*checker).memory,
		instr.Const32: (*checker).const32,
		instr.Const64: (*checker).const64,
	}[kind]
}

// plain is an instruction that nothing stands behind.
func (c *checker) plain(i api.Instr) {
	switch i.Op {
	case codeUnreachable:
		c.kill()
	case codeNop:
		c.push() // of nothing, but a stack of its own
	case codeElse:
		c.turn()
	case codeEnd:
		c.end()
	case codeReturn:
		c.want(c.env.Results...)
		c.kill()
	case codeDrop:
		c.pop()
	case codeSelect:
		c.choose()
	default:
		takes, gives, _ := ints.Shape(i.Op)
		c.want(takes...)
		c.push(gives)
	}
}

// block is one, or a loop, or an if.
func (c *checker) block(i api.Instr) {
	if i.Op == codeIf {
		c.want(api.I32)
	}
	var leaves []byte
	if i.A != 0 {
		leaves = []byte{byte(i.A)}
	}
	c.open(i.Op, leaves)
}

// turn is an else.
func (c *checker) turn() {
	n := len(c.stack.Ctrls)
	c.need(n > 0 && c.stack.Ctrls[n-1].Op == codeIf, api.ErrType)
	c.open(codeElse, c.close().End)
}

// end is that of something inside the body, whose own one isn't among its instructions. An if that comes to it has no else, and so leaves nothing where it isn't gone into.
func (c *checker) end() {
	c.need(len(c.stack.Ctrls) >= 2, api.ErrType)
	closed := c.close()
	c.need(closed.Op != codeIf || len(closed.End) == 0, api.ErrType)
	c.push(closed.End...)
}

// choose is a select.
func (c *checker) choose() {
	c.want(api.I32)
	first, second := c.pop(), c.pop()
	c.need(first == second || first == whichever || second == whichever, api.ErrType)
	if first == whichever {
		first = second
	}
	c.push(first)
}

// index is an instruction that names something by a number.
func (c *checker) index(i api.Instr) {
	switch i.Op {
	case codeBr:
		c.want(c.label(i.A)...)
		c.kill()
	case codeBrIf:
		l := c.label(i.A)
		c.want(api.I32)
		c.want(l...)
		c.push(l...)
	case codeCall:
		f, ok := Type(c.env, i.A)
		c.need(ok, api.ErrName)
		c.call(f)
	case codeLocalGet, codeLocalSet, codeLocalTee:
		c.local(i.Op, named(c, c.env.Locals, i.A))
	case codeGlobalGet:
		c.push(named(c, c.env.Globals, i.A).Val)
	case codeGlobalSet:
		g := named(c, c.env.Globals, i.A)
		c.need(g.Mut, api.ErrType)
		c.want(g.Val)
	}
}

// named is the n-th of what may be named.
func named[T any](c *checker, l []T, n int) T {
	x, ok := at(l, n)
	c.need(ok, api.ErrName)
	return x
}

// call is one of a function of a type.
func (c *checker) call(f api.FuncType) {
	c.want(f.Params...)
	c.push(f.Results...)
}

// local is an instruction with a local of a type: local.tee does what the others do, the set first.
func (c *checker) local(op int, v byte) {
	if op != codeLocalGet {
		c.want(v)
	}
	if op != codeLocalSet {
		c.push(v)
	}
}

func (c *checker) brTable(i api.Instr) {
	l := c.label(i.A)
	for _, n := range i.Labels {
		c.need(bytes.Equal(c.label(n), l), api.ErrType)
	}
	c.want(api.I32)
	c.want(l...)
	c.kill()
}

func (c *checker) callIndirect(i api.Instr) {
	c.need(c.env.Tables >= 1, api.ErrName)
	f := named(c, c.env.Types, i.A)
	c.want(api.I32)
	c.call(f)
}

// access is a load or a store.
func (c *checker) access(i api.Instr) {
	v, size, _, store := instr.Access(i.Op)
	c.need(c.env.Mems >= 1, api.ErrName)
	c.need(i.A < bits.Len(uint(size)), api.ErrType) // size is a power of two, and 2^A may be more than an int holds
	if store {
		c.want(api.I32, v)
		return
	}
	c.want(api.I32)
	c.push(v)
}

// memory is memory.size or memory.grow.
func (c *checker) memory(i api.Instr) {
	c.need(c.env.Mems >= 1, api.ErrName)
	if i.Op != codeMemorySize {
		c.want(api.I32)
	}
	c.push(api.I32)
}

func (c *checker) const32(api.Instr) { c.push(api.I32) }

func (c *checker) const64(api.Instr) { c.push(api.I64) }

// need keeps a fault where something has to hold that doesn't, if it is the first one.
func (c *checker) need(holds bool, e api.Errno) {
	if !holds && c.fault == api.OK {
		c.fault = e
	}
}

func (c *checker) push(l ...byte) {
	if c.fault == api.OK {
		c.stack, c.fault = stack.Push(c.stack, l...)
	}
}

func (c *checker) pop() (v byte) {
	if c.fault == api.OK {
		c.stack, v, c.fault = stack.Pop(c.stack)
	}
	return v
}

func (c *checker) want(l ...byte) {
	if c.fault == api.OK {
		c.stack, c.fault = stack.Want(c.stack, l...)
	}
}

func (c *checker) open(op int, end []byte) {
	if c.fault == api.OK {
		c.stack, c.fault = stack.Open(c.stack, op, end)
	}
}

func (c *checker) close() (closed stack.Ctrl) {
	if c.fault == api.OK {
		c.stack, closed, c.fault = stack.Close(c.stack)
	}
	return closed
}

func (c *checker) kill() {
	if c.fault == api.OK {
		c.stack, c.fault = stack.Kill(c.stack)
	}
}

// label is what a branch to the n-th takes.
func (c *checker) label(n int) (l []byte) {
	if c.fault == api.OK {
		l, c.fault = stack.Label(c.stack, n)
	}
	return l
}

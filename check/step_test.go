package check

import (
	"math"
	"slices"
	"strings"
	"testing"

	"avocet/api"
	"avocet/instr"
	"avocet/stack"
)

// does asks that an instruction makes one stack of another.
func does(t *testing.T, e Env, s stack.Stack, i api.Instr, right stack.Stack) {
	t.Helper()
	if got, f := Step(e, s, i); !sameStack(got, right) || f != api.OK {
		t.Errorf("Step of %v on %v = %v, %d; want %v", i, s, got, f, right)
	}
}

// fails asks that an instruction can't be done, and tells nothing but why.
func fails(t *testing.T, e Env, s stack.Stack, i api.Instr, why api.Errno) {
	t.Helper()
	if got, f := Step(e, s, i); !sameStack(got, stack.Stack{}) || f != why {
		t.Errorf("Step of %v on %v = %v, %d; want %d", i, s, got, f, why)
	}
}

// moves asks that an instruction takes and gives what a shape tells: where that is there, below other values; where one of it is 0 or of the other type; where there is less; and where there is none, dead or not.
func moves(t *testing.T, e Env, i api.Instr, takes, gives string) {
	t.Helper()
	does(t, e, on("l"+takes, block(0, "")), i, on("l"+gives, block(0, "")))
	does(t, e, on("i"+takes, block(0, "l"), loop(1, "i")), i, on("i"+gives, block(0, "l"), loop(1, "i")))
	does(t, e, on(takes, dead(block(0, "i"))), i, on(gives, dead(block(0, "i"))))
	for k := range len(takes) {
		other := map[byte]string{'i': "l", 'l': "i"}[takes[k]]
		does(t, e, on(takes[:k]+"?"+takes[k+1:], block(0, "i")), i, on(gives, block(0, "i")))
		does(t, e, on("l"+takes[k+1:], dead(block(1, ""))), i, on("l"+gives, dead(block(1, ""))))
		fails(t, e, on("l"+takes[:k]+other+takes[k+1:], block(0, "")), i, api.ErrType)
		fails(t, e, on("l"+takes[:k]+other+takes[k+1:], dead(block(0, ""))), i, api.ErrType)
		fails(t, e, on("il"+takes[k+1:], block(0, ""), block(2, "")), i, api.ErrType)
		fails(t, e, on(takes), i, api.ErrType)
	}
}

// names are numbers that none of n has.
func names(n int) []int { return []int{n, n + 1, n + 64, n + 256, 1 << 16, 1 << 31, 1<<32 - 1} }

// mayNotBe are numbers that can't stand behind a code.
func mayNotBe() []int { return []int{-1, -2, math.MinInt, 1 << 32, 1<<32 + 1, math.MaxInt} }

// P10.1: functions that have a type, and such as have none: no place, or none of Types.
func TestType(t *testing.T) {
	e := env()
	for f, place := range []int{1, 0, 3, 2} {
		if got, ok := Type(e, f); !ok || string(got.Params) != string(e.Types[place].Params) || string(got.Results) != string(e.Types[place].Results) {
			t.Errorf("Type of %d = %v, %t", f, got, ok)
		}
	}
	for _, f := range []int{4, 5, 6, 7, 8, 9, 64, 128, 1 << 32, math.MaxInt, -1, -2, -8, math.MinInt} {
		if got, ok := Type(e, f); ok || len(got.Params) != 0 || len(got.Results) != 0 {
			t.Errorf("Type of %d = %v, %t", f, got, ok)
		}
	}
	for _, e := range []Env{bare(), {Types: e.Types}, {Funcs: []int{0, 1}}, {Types: e.Types, Funcs: []int{4, -1}}} {
		for _, f := range []int{0, 1, -1} {
			if got, ok := Type(e, f); ok || len(got.Params) != 0 || len(got.Results) != 0 {
				t.Errorf("Type of %d in %v = %v, %t", f, e, got, ok)
			}
		}
	}
	if got, ok := Type(Env{Types: []api.FuncType{fn("5", "ii")}, Funcs: []int{0}}, 0); !ok || string(got.Params) != "5" || len(got.Results) != 2 {
		t.Errorf("Type of one that is not Sane = %v, %t", got, ok)
	}
}

// P10.2: a stack, or an instruction, that is not Sane is ErrArg, whatever else would be wrong.
func TestStepOfWhatIsNotSane(t *testing.T) {
	for _, s := range []stack.Stack{on("5"), on("i5", block(0, "")), on("", block(1, "")), on("", block(-1, "")), on("ii", block(2, ""), block(1, "")), on("", block(0, "ii")), on("", block(0, "?")), on("i", dead(block(0, "5")))} {
		for _, i := range some() {
			fails(t, env(), s, i, api.ErrArg)
			fails(t, bare(), s, i, api.ErrArg)
		}
	}
	wrong := 0
	for _, i := range some() {
		if instr.Sane(i) {
			continue
		}
		wrong++
		for _, s := range []stack.Stack{{}, on("iiii", block(0, "i")), on("", dead(when(0, ""))), on("i5")} {
			fails(t, env(), s, i, api.ErrArg)
			fails(t, bare(), s, i, api.ErrArg)
		}
	}
	if wrong < 400 {
		t.Errorf("just %d are not Sane", wrong)
	}
	for _, n := range mayNotBe() {
		for _, op := range []int{2, 3, 4, 12, 13, 14, 16, 17, 32, 33, 34, 35, 36, 40, 55, 62} {
			fails(t, env(), on("iii", dead(block(0, ""))), api.Instr{Op: op, A: n}, api.ErrArg)
			fails(t, bare(), stack.Stack{}, api.Instr{Op: op, A: n}, api.ErrArg)
		}
		fails(t, bare(), stack.Stack{}, api.Instr{Op: 14, Labels: []int{0, n}}, api.ErrArg)
		fails(t, env(), on("i", block(0, "")), api.Instr{Op: 40, B: n}, api.ErrArg)
	}
}

// P10.2: nop, unreachable, drop and return.
func TestStepOfPlain(t *testing.T) {
	for _, s := range []stack.Stack{{}, on("il?"), on("i", block(0, "l"), dead(when(1, "")))} {
		does(t, bare(), s, one("nop"), s)
	}
	fails(t, env(), on("ii"), one("unreachable"), api.ErrType)
	does(t, env(), on("", block(0, "")), one("unreachable"), on("", dead(block(0, ""))))
	does(t, env(), on("lil", block(0, "i"), block(1, "i")), one("unreachable"), on("l", block(0, "i"), dead(block(1, "i"))))
	does(t, env(), on("l?", dead(block(1, "i"))), one("unreachable"), on("l", dead(block(1, "i"))))
	for _, v := range []string{"i", "l", "?"} {
		does(t, env(), on("l"+v, block(1, "")), one("drop"), on("l", block(1, "")))
		fails(t, env(), on(v), one("drop"), api.ErrType)
		fails(t, env(), on(v, block(0, ""), block(1, "")), one("drop"), api.ErrType)
		does(t, env(), on(v, dead(block(1, ""))), one("drop"), on(v, dead(block(1, ""))))
	}
	for _, x := range []struct{ results, left string }{{"", "lil"}, {"l", "li"}, {"il", "l"}} {
		e := env()
		e.Results = vals(x.results)
		does(t, e, on("lil", block(0, "i"), block(1, "i")), one("return"), on("l", block(0, "i"), dead(block(1, "i"))))
		does(t, e, on("", dead(block(0, ""))), one("return"), on("", dead(block(0, ""))))
		fails(t, e, on("lil"), one("return"), api.ErrType)
		if x.results != "" {
			fails(t, e, on("lli", block(0, "")), one("return"), api.ErrType)
			fails(t, e, on("lil", block(0, ""), block(3, "")), one("return"), api.ErrType)
			fails(t, e, on("i", dead(block(0, "l"))), one("return"), api.ErrType)
			does(t, e, on("??", block(0, "")), one("return"), on("", dead(block(0, ""))))
		}
	}
}

// P10.2: select of two of one type, of two types, of 0 and a type either way, of two 0; and where less is there.
func TestStepOfSelect(t *testing.T) {
	for _, x := range []struct{ two, left string }{{"ii", "i"}, {"ll", "l"}, {"?i", "i"}, {"i?", "i"}, {"?l", "l"}, {"l?", "l"}, {"??", "?"}} {
		for _, top := range []string{"i", "?"} {
			does(t, bare(), on("l"+x.two+top, block(1, "")), one("select"), on("l"+x.left, block(1, "")))
			does(t, bare(), on(x.two+top, dead(loop(0, "i"))), one("select"), on(x.left, dead(loop(0, "i"))))
		}
		fails(t, bare(), on(x.two+"l", block(0, "")), one("select"), api.ErrType)
		fails(t, bare(), on(x.two+"l", dead(block(0, ""))), one("select"), api.ErrType)
		fails(t, bare(), on(x.two+"i"), one("select"), api.ErrType)
		fails(t, bare(), on(x.two+"i", block(0, ""), block(1, "")), one("select"), api.ErrType)
		fails(t, bare(), on(x.two+"i", block(0, ""), block(2, "")), one("select"), api.ErrType)
		fails(t, bare(), on(x.two+"i", block(0, ""), block(3, "")), one("select"), api.ErrType)
	}
	for _, two := range []string{"il", "li"} {
		fails(t, bare(), on(two+"i", block(0, "")), one("select"), api.ErrType)
		fails(t, bare(), on(two+"?", dead(block(0, ""))), one("select"), api.ErrType)
	}
	for _, x := range []struct{ there, left string }{{"", "?"}, {"i", "?"}, {"?", "?"}, {"ii", "i"}, {"li", "l"}, {"?i", "?"}} {
		does(t, bare(), on("l"+x.there, dead(block(1, ""))), one("select"), on("l"+x.left, dead(block(1, ""))))
	}
	fails(t, bare(), on("l", dead(block(0, ""))), one("select"), api.ErrType)
}

// P10.2: block, loop and if, of what they may leave.
func TestStepOfBlocks(t *testing.T) {
	for _, end := range []string{"", "i", "l"} {
		for op, name := range map[int]string{2: "block", 3: "loop"} {
			i := one(name + ":" + end)
			does(t, bare(), stack.Stack{}, i, on("", opened(op, 0, end)))
			does(t, bare(), on("il", block(1, "i")), i, on("il", block(1, "i"), opened(op, 2, end)))
			does(t, bare(), on("l", dead(block(1, ""))), i, on("l", dead(block(1, "")), opened(op, 1, end)))
		}
		i := one("if:" + end)
		does(t, bare(), on("li", block(0, "i")), i, on("l", block(0, "i"), when(1, end)))
		does(t, bare(), on("l?", block(0, "i")), i, on("l", block(0, "i"), when(1, end)))
		does(t, bare(), on("l", dead(block(1, ""))), i, on("l", dead(block(1, "")), when(1, end)))
		fails(t, bare(), on("l", block(0, "")), i, api.ErrType)
		fails(t, bare(), on("i"), i, api.ErrType)
		fails(t, bare(), on("i", block(0, ""), block(1, "")), i, api.ErrType)
		fails(t, bare(), on("l", dead(block(0, ""))), i, api.ErrType)
	}
}

// P10.2: else, of an if and of others, of what leaves something and of what doesn't.
func TestStepOfElse(t *testing.T) {
	e := one("else")
	for _, end := range []string{"", "i", "l"} {
		turned := opened(5, 1, end)
		does(t, bare(), on("l"+end, block(0, "l"), when(1, end)), e, on("l", block(0, "l"), turned))
		does(t, bare(), on(end, when(0, end)), e, on("", opened(5, 0, end)))
		does(t, bare(), on("l", dead(block(0, "l")), dead(when(1, end))), e, on("l", dead(block(0, "l")), turned))
		for _, op := range []int{0, 2, 3, 5, 11, 16, -4, 4 + 256, math.MaxInt} {
			fails(t, bare(), on("l"+end, when(0, "l"), opened(op, 1, end)), e, api.ErrType)
			fails(t, bare(), on("", dead(opened(op, 0, end))), e, api.ErrType)
		}
		for _, wrong := range []string{"", "i", "l", "ii", "ll", "il", "li"} {
			if wrong != end {
				fails(t, bare(), on("l"+wrong, block(0, "l"), when(1, end)), e, api.ErrType)
			}
		}
		fails(t, bare(), on("ii"+end, dead(when(1, end))), e, api.ErrType)
	}
	does(t, bare(), on("?", when(0, "l")), e, on("", opened(5, 0, "l")))
	fails(t, bare(), on("il"), e, api.ErrType)
	fails(t, bare(), stack.Stack{}, e, api.ErrType)
}

// P10.2: end, where none, one and more are open, of an if that leaves something and of others.
func TestStepOfEnd(t *testing.T) {
	e := one("end")
	fails(t, bare(), stack.Stack{}, e, api.ErrType)
	fails(t, bare(), on("i"), e, api.ErrType)
	for _, end := range []string{"", "i", "l"} {
		for _, op := range []int{2, 3, 5, 4} {
			inner := opened(op, 1, end)
			fails(t, bare(), on(end, opened(op, 0, end)), e, api.ErrType)
			fails(t, bare(), on("", dead(opened(op, 0, end))), e, api.ErrType)
			if op == 4 && end != "" {
				fails(t, bare(), on("l"+end, block(0, "i"), inner), e, api.ErrType)
				fails(t, bare(), on("l", block(0, "i"), dead(inner)), e, api.ErrType)
				continue
			}
			does(t, bare(), on("l"+end, block(0, "i"), inner), e, on("l"+end, block(0, "i")))
			does(t, bare(), on("l", block(0, "i"), dead(inner)), e, on("l"+end, block(0, "i")))
			does(t, bare(), on("l"+end, when(0, ""), dead(block(0, "i")), inner), e, on("l"+end, when(0, ""), dead(block(0, "i"))))
			for _, wrong := range []string{"", "i", "l", "ii", "ll", "il", "li"} {
				if wrong != end {
					fails(t, bare(), on("l"+wrong, block(0, "i"), inner), e, api.ErrType)
				}
			}
			fails(t, bare(), on("lll"+end, block(0, "i"), dead(inner)), e, api.ErrType)
		}
	}
	does(t, bare(), on("?", block(0, ""), block(0, "l")), e, on("l", block(0, "")))
}

// P10.2: br and br_if of the innermost, the outermost and one more, of a loop and of others.
func TestStepOfBranch(t *testing.T) {
	outer := []stack.Ctrl{block(0, "l"), loop(1, "i"), when(1, "i"), opened(5, 1, ""), block(1, "i")}
	takes := []string{"i", "", "i", "", "l"}
	for n, l := range takes {
		left := append(slices.Clone(outer[:4]), dead(outer[4]))
		i := api.Instr{Op: 12, A: n}
		does(t, bare(), on("i"+l, outer...), i, on("i", left...))
		does(t, bare(), on("ili"+l, outer...), i, on("i", left...))
		does(t, bare(), on("i", left...), i, on("i", left...))
		i.Op = 13
		does(t, bare(), on("i"+l+"i", outer...), i, on("i"+l, outer...))
		does(t, bare(), on("ili"+l+"?", outer...), i, on("ili"+l, outer...))
		does(t, bare(), on("i", left...), i, on("i"+l, left...))
		fails(t, bare(), on("i"+l+"l", outer...), i, api.ErrType)
		fails(t, bare(), on("i"+l, outer...), i, api.ErrType)
		for _, wrong := range []string{"", "i", "l"} {
			if l != "" && wrong != l {
				fails(t, bare(), on("i"+wrong, outer...), api.Instr{Op: 12, A: n}, api.ErrType)
				fails(t, bare(), on("i"+wrong+"i", outer...), i, api.ErrType)
			}
		}
	}
	for _, n := range names(5) {
		fails(t, bare(), on("ili", outer...), api.Instr{Op: 12, A: n}, api.ErrName)
		fails(t, bare(), on("i", outer...), api.Instr{Op: 13, A: n}, api.ErrName)
		fails(t, bare(), on("i", dead(block(1, "l"))), api.Instr{Op: 13, A: n}, api.ErrName)
	}
	fails(t, bare(), on("i"), one("br:0"), api.ErrName)
	fails(t, bare(), on(""), one("br_if:0"), api.ErrName)
}

// P10.2: br_if wants a value again that it leaves: one of whichever type is of the label's then.
func TestStepOfBranchIfLeaves(t *testing.T) {
	does(t, bare(), on("?i", block(0, "l")), one("br_if:0"), on("l", block(0, "l")))
	does(t, bare(), on("??", dead(block(0, "i"))), one("br_if:0"), on("i", dead(block(0, "i"))))
	does(t, bare(), on("?i", loop(0, "l")), one("br_if:0"), on("?", loop(0, "l")))
}

// P10.2: br_table, whose labels are as one, differ, or are none; of errors the first one in the order of Labels, behind that of A.
func TestStepOfBranchTable(t *testing.T) {
	open := []stack.Ctrl{block(0, "i"), block(0, "l"), loop(0, "l"), block(0, ""), when(0, "l"), block(0, "i")} // 5 to 0: i, l, none, none, l, i
	killed := on("", append(slices.Clone(open[:5]), dead(open[5]))...)
	for _, x := range []struct {
		text, on string
		e        api.Errno
	}{
		{"br_table:0", "ii", api.OK}, {"br_table:5", "ii", api.OK}, {"br_table:0,5", "ii", api.OK}, {"br_table:5,0,0,5,0", "lii", api.OK}, {"br_table:1,4", "li", api.OK}, {"br_table:4,1", "l?", api.OK}, {"br_table:2,3", "i", api.OK}, {"br_table:3", "li", api.OK}, {"br_table:3,3,2", "?", api.OK},
		{"br_table:0,1", "ii", api.ErrType}, {"br_table:1,0", "ii", api.ErrType}, {"br_table:0,1", "?i", api.ErrType}, {"br_table:0,2", "ii", api.ErrType}, {"br_table:2,0", "ii", api.ErrType}, {"br_table:0,3,5", "ii", api.ErrType}, {"br_table:2,2,4", "li", api.ErrType},
		{"br_table:6", "ii", api.ErrName}, {"br_table:0,6", "ii", api.ErrName}, {"br_table:6,0", "ii", api.ErrName}, {"br_table:0,6,0", "", api.ErrName}, {"br_table:4294967295,0", "ii", api.ErrName}, {"br_table:0,4294967295", "ii", api.ErrName},
		{"br_table:1,6,0", "ii", api.ErrType}, {"br_table:6,1,0", "ii", api.ErrName}, {"br_table:1,6", "ii", api.ErrName}, {"br_table:0,1,6,0", "ii", api.ErrType}, {"br_table:0,6,1,0", "ii", api.ErrName},
		{"br_table:0,5", "il", api.ErrType}, {"br_table:0,5", "i", api.ErrType}, {"br_table:0,5", "li", api.ErrType}, {"br_table:2", "l", api.ErrType}, {"br_table:2", "", api.ErrType},
	} {
		if x.e != api.OK {
			fails(t, bare(), on(x.on, open...), one(x.text), x.e)
			continue
		}
		does(t, bare(), on(x.on, open...), one(x.text), killed)
		does(t, bare(), killed, one(x.text), killed)
	}
	fails(t, bare(), on("i"), one("br_table:0"), api.ErrName)
	fails(t, bare(), killed, one("br_table:0,1"), api.ErrType)
	fails(t, bare(), killed, one("br_table:0,6"), api.ErrName)
	many := api.Instr{Op: 14, A: 5, Labels: make([]int, 64)}
	does(t, bare(), on("ii", open...), many, killed)
	many.Labels[63] = 1
	fails(t, bare(), on("ii", open...), many, api.ErrType)
	many.Labels[63] = 6
	fails(t, bare(), on("ii", open...), many, api.ErrName)
}

// P10.2: call and call_indirect of types with no, one and several params and results.
func TestStepOfCalls(t *testing.T) {
	e := env()
	e.Types = append(e.Types, fn("iiiiiiiillllllll", "i"))
	e.Funcs = append(e.Funcs, 4)
	shapes := []struct{ takes, gives string }{{"", ""}, {"il", "l"}, {"lli", ""}, {"", "i"}, {"iiiiiiiillllllll", "i"}}
	for f, place := range e.Funcs {
		if place >= 0 && place < len(shapes) {
			moves(t, e, api.Instr{Op: 16, A: f}, shapes[place].takes, shapes[place].gives)
		}
	}
	for place, x := range shapes {
		moves(t, e, api.Instr{Op: 17, A: place}, x.takes+"i", x.gives)
	}
}

// P10.2: a function or a type that is none is ErrName ahead of all else; so is no table.
func TestStepOfCallsOfNone(t *testing.T) {
	for _, s := range []stack.Stack{{}, on("lii", block(0, "")), on("", block(0, "")), on("l", block(0, "")), on("", dead(block(0, "")))} {
		for _, n := range append(names(9), 4, 5, 6, 7, 8) {
			fails(t, env(), s, api.Instr{Op: 16, A: n}, api.ErrName)
			fails(t, env(), s, api.Instr{Op: 17, A: n}, api.ErrName)
		}
		for _, tables := range []int{0, -1, math.MinInt} {
			e := env()
			e.Tables = tables
			for _, n := range []int{0, 1, 4} {
				fails(t, e, s, api.Instr{Op: 17, A: n}, api.ErrName)
			}
		}
		fails(t, bare(), s, one("call:0"), api.ErrName)
		fails(t, Env{Tables: 1}, s, one("call_indirect:0"), api.ErrName)
	}
	e := env()
	e.Tables = math.MaxInt
	moves(t, e, one("call_indirect:3"), "i", "i")
	e.Tables = 0
	moves(t, e, one("call:2"), "", "i")
}

// P10.2: local.get, local.set and local.tee of each local, and of none.
func TestStepOfLocals(t *testing.T) {
	e := env()
	for len(e.Locals) < 64 {
		e.Locals = append(e.Locals, vals("il")[len(e.Locals)*7%3%2])
	}
	for n, v := range e.Locals {
		text := map[byte]string{127: "i", 126: "l"}[v]
		moves(t, e, api.Instr{Op: 32, A: n}, "", text)
		moves(t, e, api.Instr{Op: 33, A: n}, text, "")
		moves(t, e, api.Instr{Op: 34, A: n}, text, text)
	}
	for op := 32; op <= 34; op++ {
		for _, n := range names(64) {
			fails(t, e, on("", block(0, "")), api.Instr{Op: op, A: n}, api.ErrName)
			fails(t, e, on("", dead(block(0, ""))), api.Instr{Op: op, A: n}, api.ErrName)
		}
		fails(t, bare(), on("i", block(0, "")), api.Instr{Op: op}, api.ErrName)
	}
	does(t, e, on(""), one("local.get:1"), on("l"))
}

// P10.2: global.get and global.set of each global, of one that is not Mut, and of none.
func TestStepOfGlobals(t *testing.T) {
	for n, x := range []struct {
		text string
		mut  bool
	}{{"i", false}, {"l", true}, {"i", true}} {
		moves(t, env(), api.Instr{Op: 35, A: n}, "", x.text)
		if x.mut {
			moves(t, env(), api.Instr{Op: 36, A: n}, x.text, "")
			continue
		}
		for _, s := range []stack.Stack{on(x.text, block(0, "")), on("", block(0, "")), on("", dead(block(0, ""))), {}} {
			fails(t, env(), s, api.Instr{Op: 36, A: n}, api.ErrType)
		}
	}
	for op := 35; op <= 36; op++ {
		for _, n := range names(3) {
			fails(t, env(), on("", block(0, "")), api.Instr{Op: op, A: n}, api.ErrName)
			fails(t, env(), on("", dead(block(0, ""))), api.Instr{Op: op, A: n}, api.ErrName)
		}
		fails(t, bare(), on("i", block(0, "")), api.Instr{Op: op}, api.ErrName)
	}
}

// P10.2: loads and stores, with each alignment up to what they read or write, above it, and with no memory.
func TestStepOfAccesses(t *testing.T) {
	tested := 0
	for op := range 256 {
		shape, most := accessByWords(op)
		if shape == "" {
			continue
		}
		tested++
		takes, gives, _ := strings.Cut(shape, ">")
		for a := range most + 1 {
			for _, off := range []int{0, 1, 1<<32 - 1} {
				moves(t, env(), api.Instr{Op: op, A: a, B: off}, takes, gives)
			}
		}
		for _, a := range []int{most + 1, most + 2, 4, 8, 31, 32, 62, 63, 64, 65, 127, 128, 256, 1 << 31, 1<<32 - 1} {
			fails(t, env(), on(takes, block(0, "")), api.Instr{Op: op, A: a}, api.ErrType)
			fails(t, env(), on("", dead(block(0, ""))), api.Instr{Op: op, A: a}, api.ErrType)
			for _, mems := range []int{0, -1, math.MinInt} {
				e := env()
				e.Mems = mems
				fails(t, e, on("", block(0, "")), api.Instr{Op: op, A: a}, api.ErrName)
				fails(t, e, on(takes, block(0, "")), api.Instr{Op: op}, api.ErrName)
			}
		}
	}
	if tested != 19 {
		t.Errorf("%d accesses", tested)
	}
}

// P10.2: memory.size and memory.grow, with and without a memory.
func TestStepOfMemory(t *testing.T) {
	for _, mems := range []int{1, 2, math.MaxInt} {
		e := Env{Mems: mems}
		moves(t, e, one("memory.size"), "", "i")
		moves(t, e, one("memory.grow"), "i", "i")
	}
	for _, mems := range []int{0, -1, math.MinInt} {
		for _, s := range []stack.Stack{{}, on("i", block(0, "")), on("l", block(0, "")), on("", dead(block(0, "")))} {
			fails(t, Env{Mems: mems}, s, one("memory.size"), api.ErrName)
			fails(t, Env{Mems: mems}, s, one("memory.grow"), api.ErrName)
		}
	}
}

// P10.2: constants, and each operator of one and of two operands.
func TestStepOfNumbers(t *testing.T) {
	for _, k := range []uint64{0, 1, 1 << 31, 1<<32 - 1} {
		moves(t, bare(), api.Instr{Op: 65, K: k}, "", "i")
		moves(t, bare(), api.Instr{Op: 66, K: k}, "", "l")
	}
	moves(t, bare(), api.Instr{Op: 66, K: math.MaxUint64}, "", "l")
	does(t, bare(), stack.Stack{}, one("i32"), on("i"))
	tested := 0
	for op := range 256 {
		if takes, gives, ok := strings.Cut(shapeByWords(op), ">"); ok {
			tested++
			moves(t, bare(), api.Instr{Op: op}, takes, gives)
		}
	}
	if tested != 11+11+18+18+3 {
		t.Errorf("%d operators", tested)
	}
}

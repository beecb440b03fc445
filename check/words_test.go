package check

import (
	"bytes"
	"math"
	"slices"
	"strconv"
	"strings"
	"testing"

	"avocet/api"
	"avocet/body"
	"avocet/instr"
	"avocet/stack"
	"avocet/types"
)

// vals are types, a letter each: i and l are I32 and I64, ? is 0; all else stands for itself, and is none.
func vals(text string) []byte {
	return []byte(strings.NewReplacer("i", "\x7f", "l", "\x7e", "?", "\x00").Replace(text))
}

// letters are the codes of these tests' bodies.
func letters() map[string]int {
	return map[string]int{
		"unreachable": 0, "nop": 1, "block": 2, "loop": 3, "if": 4, "else": 5, "end": 11, "br": 12, "br_if": 13, "br_table": 14, "return": 15, "call": 16, "call_indirect": 17, "drop": 26, "select": 27,
		"local.get": 32, "local.set": 33, "local.tee": 34, "global.get": 35, "global.set": 36, "i32.load": 40, "i64.load": 41, "i32.store": 54, "i64.store": 55, "memory.size": 63, "memory.grow": 64,
		"i32": 65, "i64": 66, "i32.eqz": 69, "i64.eqz": 80, "i32.add": 106, "i64.add": 124, "wrap": 167, "extend": 172,
	}
}

// code is a body: each instruction is its name, and, behind a colon, the letter of what it leaves, or numbers: Labels and A.
func code(text string) []api.Instr {
	var l []api.Instr
	for word := range strings.FieldsSeq(text) {
		name, args, _ := strings.Cut(word, ":")
		op, ok := letters()[name]
		if !ok {
			panic(word)
		}
		i := api.Instr{Op: op}
		if v := vals(args); instr.Kind(op) == instr.Block && args != "" {
			i.A = int(v[0])
		} else if args != "" {
			var ns []int
			for arg := range strings.SplitSeq(args, ",") {
				n, err := strconv.Atoi(arg)
				if err != nil {
					panic(err)
				}
				ns = append(ns, n)
			}
			i.A, i.Labels = ns[len(ns)-1], ns[:len(ns)-1]
		}
		l = append(l, i)
	}
	return l
}

// one is one instruction.
func one(text string) api.Instr { return code(text)[0] }

// opened is something open, of a code, a Height and what it leaves.
func opened(op, height int, end string) stack.Ctrl {
	return stack.Ctrl{Op: op, End: vals(end), Height: height}
}

func block(height int, end string) stack.Ctrl { return opened(2, height, end) }
func loop(height int, end string) stack.Ctrl  { return opened(3, height, end) }
func when(height int, end string) stack.Ctrl  { return opened(4, height, end) }

func dead(c stack.Ctrl) stack.Ctrl {
	c.Dead = true
	return c
}

// on is a stack of values, and what is open.
func on(text string, open ...stack.Ctrl) stack.Stack {
	return stack.Stack{Vals: vals(text), Ctrls: open}
}

func fn(params, results string) api.FuncType {
	return api.FuncType{Params: vals(params), Results: vals(results)}
}

func sameCtrl(a, b stack.Ctrl) bool {
	return a.Op == b.Op && bytes.Equal(a.End, b.End) && a.Height == b.Height && a.Dead == b.Dead
}

func sameStack(a, b stack.Stack) bool {
	return bytes.Equal(a.Vals, b.Vals) && slices.EqualFunc(a.Ctrls, b.Ctrls, sameCtrl)
}

// change is what is done to a stack, one behind the other.
type change func(stack.Stack) (stack.Stack, api.Errno)

func want(l ...byte) change {
	return func(s stack.Stack) (stack.Stack, api.Errno) { return stack.Want(s, l...) }
}

func push(l ...byte) change {
	return func(s stack.Stack) (stack.Stack, api.Errno) { return stack.Push(s, l...) }
}

func opens(op int, end ...byte) change {
	return func(s stack.Stack) (stack.Stack, api.Errno) { return stack.Open(s, op, end) }
}

func unless(ok bool, e api.Errno) change {
	return func(s stack.Stack) (stack.Stack, api.Errno) {
		if !ok {
			return stack.Stack{}, e
		}
		return s, 0
	}
}

func inOrder(s stack.Stack, l ...change) (stack.Stack, api.Errno) {
	for _, f := range l {
		var e api.Errno
		if s, e = f(s); e != 0 {
			return stack.Stack{}, e
		}
	}
	return s, 0
}

// shapeByWords is what an operator takes and gives, by the words of layer 2; nothing of what is none.
func shapeByWords(op int) string {
	switch {
	case op == 69:
		return "i>i"
	case op >= 70 && op <= 79:
		return "ii>i"
	case op == 80:
		return "l>i"
	case op >= 81 && op <= 90:
		return "ll>i"
	case op >= 103 && op <= 105:
		return "i>i"
	case op >= 106 && op <= 120:
		return "ii>i"
	case op >= 121 && op <= 123:
		return "l>l"
	case op >= 124 && op <= 138:
		return "ll>l"
	case op == 167:
		return "l>i"
	case op == 172 || op == 173:
		return "i>l"
	}
	return ""
}

// accessByWords is a load or a store, by the words of layer 5: its shape, and the greatest A that it may have; nothing of others.
func accessByWords(op int) (string, int) {
	switch op {
	case 40:
		return "i>i", 2
	case 41:
		return "i>l", 3
	case 44, 45:
		return "i>i", 0
	case 46, 47:
		return "i>i", 1
	case 48, 49:
		return "i>l", 0
	case 50, 51:
		return "i>l", 1
	case 52, 53:
		return "i>l", 2
	case 54:
		return "ii>", 2
	case 55:
		return "il>", 3
	case 58:
		return "ii>", 0
	case 59:
		return "ii>", 1
	case 60:
		return "il>", 0
	case 61:
		return "il>", 1
	case 62:
		return "il>", 2
	}
	return "", 0
}

// through is a shape: what is wanted, and then pushed.
func through(shape string) change {
	takes, gives, _ := strings.Cut(shape, ">")
	return func(s stack.Stack) (stack.Stack, api.Errno) {
		return inOrder(s, want(vals(takes)...), push(vals(gives)...))
	}
}

// typeByWords is Type, word by word of P10.1.
func typeByWords(e Env, f int) (api.FuncType, bool) {
	for k, place := range e.Funcs {
		for n, t := range e.Types {
			if k == f && n == place {
				return t, true
			}
		}
	}
	return api.FuncType{}, false
}

// stepByWords is Step, word by word of P10.2.
func stepByWords(e Env, s stack.Stack, i api.Instr) (stack.Stack, api.Errno) {
	if !stack.Sane(s) || !instr.Sane(i) {
		return stack.Stack{}, 1
	}
	switch op := i.Op; op {
	case 0:
		return stack.Kill(s)
	case 1:
		return s, 0
	case 2, 3, 4:
		var end []byte
		if i.A != 0 {
			end = []byte{byte(i.A)}
		}
		if op == 4 {
			return inOrder(s, want(127), opens(4, end...))
		}
		return stack.Open(s, op, end)
	case 5, 11:
		return closedByWords(s, op)
	case 12, 13, 14:
		return branchByWords(s, i)
	case 15:
		return inOrder(s, want(e.Results...), stack.Kill)
	case 16:
		f, ok := typeByWords(e, i.A)
		return inOrder(s, unless(ok, 6), want(f.Params...), push(f.Results...))
	case 17:
		if e.Tables < 1 || i.A >= len(e.Types) {
			return stack.Stack{}, 6
		}
		return inOrder(s, want(127), want(e.Types[i.A].Params...), push(e.Types[i.A].Results...))
	case 26:
		s, _, f := stack.Pop(s)
		return s, f
	case 27:
		return selectByWords(s)
	case 65:
		return stack.Push(s, 127)
	case 66:
		return stack.Push(s, 126)
	}
	if shape := shapeByWords(i.Op); shape != "" {
		return inOrder(s, through(shape))
	}
	if i.Op >= 32 && i.Op <= 36 {
		return variableByWords(e, s, i)
	}
	return memoryByWords(e, s, i)
}

// closedByWords is an else or an end.
func closedByWords(s stack.Stack, op int) (stack.Stack, api.Errno) {
	n := len(s.Ctrls)
	if op == 5 && (n == 0 || s.Ctrls[n-1].Op != 4) || op == 11 && n < 2 {
		return stack.Stack{}, 5
	}
	s, c, e := stack.Close(s)
	if e != 0 {
		return stack.Stack{}, e
	}
	if op == 5 {
		return stack.Open(s, 5, c.End)
	}
	if c.Op == 4 && len(c.End) == 1 {
		return stack.Stack{}, 5
	}
	return stack.Push(s, c.End...)
}

// branchByWords is br, br_if or br_table.
func branchByWords(s stack.Stack, i api.Instr) (stack.Stack, api.Errno) {
	l, e := stack.Label(s, i.A)
	if e != 0 {
		return stack.Stack{}, e
	}
	for _, n := range i.Labels {
		k, e := stack.Label(s, n)
		if e != 0 {
			return stack.Stack{}, e
		}
		if string(k) != string(l) {
			return stack.Stack{}, 5
		}
	}
	switch i.Op {
	case 12:
		return inOrder(s, want(l...), stack.Kill)
	case 13:
		return inOrder(s, want(127), want(l...), push(l...))
	}
	return inOrder(s, want(127), want(l...), stack.Kill)
}

func selectByWords(s stack.Stack) (stack.Stack, api.Errno) {
	s, e := stack.Want(s, 127)
	if e != 0 {
		return stack.Stack{}, e
	}
	s, first, e := stack.Pop(s)
	if e != 0 {
		return stack.Stack{}, e
	}
	s, other, e := stack.Pop(s)
	if e != 0 {
		return stack.Stack{}, e
	}
	if first != 0 && other != 0 && first != other {
		return stack.Stack{}, 5
	}
	if first != 0 {
		return stack.Push(s, first)
	}
	return stack.Push(s, other)
}

// variableByWords is an instruction with a local or a global.
func variableByWords(e Env, s stack.Stack, i api.Instr) (stack.Stack, api.Errno) {
	if i.Op <= 34 && i.A >= len(e.Locals) || i.Op >= 35 && i.A >= len(e.Globals) {
		return stack.Stack{}, 6
	}
	switch i.Op {
	case 32:
		return stack.Push(s, e.Locals[i.A])
	case 33:
		return stack.Want(s, e.Locals[i.A])
	case 34:
		return inOrder(s, want(e.Locals[i.A]), push(e.Locals[i.A]))
	case 35:
		return stack.Push(s, e.Globals[i.A].Val)
	}
	return inOrder(s, unless(e.Globals[i.A].Mut, 5), want(e.Globals[i.A].Val))
}

// memoryByWords is an instruction that wants a memory.
func memoryByWords(e Env, s stack.Stack, i api.Instr) (stack.Stack, api.Errno) {
	if e.Mems < 1 {
		return stack.Stack{}, 6
	}
	switch i.Op {
	case 63:
		return stack.Push(s, 127)
	case 64:
		return inOrder(s, through("i>i"))
	}
	shape, most := accessByWords(i.Op)
	return inOrder(s, unless(i.A <= most, 5), through(shape))
}

// pathByWords is Path, word by word of P10.3.
func pathByWords(e Env, l []api.Instr) ([]stack.Stack, api.Errno) {
	if _, ok := body.Matches(l); !ok {
		return nil, 3
	}
	for _, v := range slices.Concat(e.Results, e.Locals) {
		if v != 126 && v != 127 {
			return nil, 1
		}
	}
	for _, g := range e.Globals {
		if g.Val != 126 && g.Val != 127 {
			return nil, 1
		}
	}
	for _, t := range e.Types {
		if !types.Sane(t) {
			return nil, 1
		}
	}
	if len(e.Results) > 1 {
		return nil, 1
	}
	s, _ := stack.Open(stack.Stack{}, 2, e.Results)
	path := []stack.Stack{s}
	for _, i := range l {
		var f api.Errno
		if s, f = stepByWords(e, s, i); f != 0 {
			return nil, f
		}
		path = append(path, s)
	}
	return path, 0
}

// bodyByWords is Body, word by word of P10.3.
func bodyByWords(e Env, l []api.Instr) api.Errno {
	path, f := pathByWords(e, l)
	if f != 0 {
		return f
	}
	if _, _, f := stack.Close(path[len(path)-1]); f != 0 {
		return 5
	}
	return 0
}

// heldStep holds a Step against the words.
func heldStep(t *testing.T, e Env, s stack.Stack, i api.Instr) api.Errno {
	t.Helper()
	got, f := Step(e, s, i)
	right, g := stepByWords(e, s, i)
	if f != g || !sameStack(got, right) {
		t.Errorf("Step of %v on %v = %v, %d; want %v, %d", i, s, got, f, right, g)
	}
	if f == api.OK && !stack.Sane(got) {
		t.Errorf("Step of %v on %v = %v, which is not Sane", i, s, got)
	}
	return f
}

// heldBody holds Path and Body against the words.
func heldBody(t *testing.T, e Env, l []api.Instr) api.Errno {
	t.Helper()
	got, f := Path(e, l)
	right, g := pathByWords(e, l)
	if f != g || !slices.EqualFunc(got, right, sameStack) {
		t.Errorf("Path of %v = %v, %d; want %v, %d", l, got, f, right, g)
	}
	told, g := Body(e, l), bodyByWords(e, l)
	if told != g {
		t.Errorf("Body of %v = %d; want %d", l, told, g)
	}
	return told
}

// env is one in which much may be named: of its functions, those behind the fourth have no type.
func env() Env {
	return Env{
		Types:   []api.FuncType{fn("", ""), fn("il", "l"), fn("lli", ""), fn("", "i")},
		Funcs:   []int{1, 0, 3, 2, 4, -1, math.MaxInt, math.MinInt},
		Tables:  1,
		Mems:    1,
		Globals: []Glob{{127, false}, {126, true}, {127, true}},
		Locals:  vals("il"),
		Results: vals("i"),
	}
}

// bare is one in which nothing may be named.
func bare() Env { return Env{} }

// numbers are ones that name something, or nothing, or that can't stand behind a code.
func numbers() []int {
	return []int{0, 1, 2, 3, 4, 5, 6, 7, 8, 62, 63, 64, 65, 1 << 31, 1<<32 - 1, 1 << 32, math.MaxInt, -1, -2, math.MinInt}
}

// some are instructions of each code, and of numbers that are none, that may and may not be.
func some() []api.Instr {
	var l []api.Instr
	for op := -2; op < 260; op++ {
		l = append(l, api.Instr{Op: op})
		switch instr.Kind(op) {
		case instr.Block:
			l = append(l, api.Instr{Op: op, A: 126}, api.Instr{Op: op, A: 127}, api.Instr{Op: op, A: 1}, api.Instr{Op: op, A: 127, B: 1})
		case instr.Index, instr.CallInd, instr.MemArg:
			for _, n := range numbers() {
				l = append(l, api.Instr{Op: op, A: n})
			}
			l = append(l, api.Instr{Op: op, A: 1, B: 1}, api.Instr{Op: op, B: 1 << 32})
		case instr.BrTable:
			for _, labels := range [][]int{{0}, {1}, {0, 1}, {1, 0}, {2, 3}, {3}, {9, 0}, {0, 9}, {-1}, {1 << 32}, make([]int, 64), make([]int, 65)} {
				for _, n := range []int{0, 1, 2, 3, 1<<32 - 1, -1} {
					l = append(l, api.Instr{Op: op, Labels: labels, A: n})
				}
			}
		case instr.Const32, instr.Const64:
			l = append(l, api.Instr{Op: op, K: 1<<32 - 1}, api.Instr{Op: op, K: 1 << 32}, api.Instr{Op: op, A: 1})
		case instr.MemOp, instr.Plain:
			l = append(l, api.Instr{Op: op, A: 1}, api.Instr{Op: op, K: 1}, api.Instr{Op: op, Labels: []int{0}})
		}
	}
	return append(l, api.Instr{Op: math.MinInt}, api.Instr{Op: math.MaxInt}, api.Instr{Op: 1 << 32}, api.Instr{Op: 256 + 26})
}

// everyList calls f with each list of up to n of these.
func everyList[T any](of []T, n int, f func([]T)) {
	f(nil)
	if n == 0 {
		return
	}
	for _, x := range of {
		everyList(of, n-1, func(l []T) { f(append([]T{x}, l...)) })
	}
}

// P10.2: each instruction on all small stacks where one thing is open, or nothing.
func TestStepOnSmallStacks(t *testing.T) {
	l, fits := some(), 0
	everyList([]byte{0, 126, 127}, 3, func(v []byte) {
		text := string(v)
		for _, s := range []stack.Stack{on(text), on(text, block(0, "i")), on(text, dead(block(0, "l"))), on(text, loop(1, "")), on(text, dead(when(1, "")))} {
			for _, i := range l {
				if stack.Sane(s) && heldStep(t, env(), s, i) == api.OK {
					fits++
				}
			}
		}
	})
	if fits < 10000 {
		t.Errorf("just %d of them were OK", fits)
	}
}

// P10.2: what hangs on what is open, on all small stacks where up to three things are open; some of these are not Sane.
func TestStepOfBranches(t *testing.T) {
	l := slices.DeleteFunc(some(), func(i api.Instr) bool { return i.Op > 15 || !instr.Sane(i) })
	for _, text := range []string{"", "i", "l", "?", "ii", "il", "lil"} {
		var open []stack.Ctrl
		for h := range min(len(text), 1) + 1 {
			for _, end := range []string{"", "i", "l"} {
				open = append(open, block(h, end), loop(h, end), when(h, end), dead(when(h, end)), opened(5, h, end))
			}
		}
		everyList(open, 2, func(c []stack.Ctrl) {
			for _, i := range l {
				heldStep(t, env(), on(text, c...), i)
			}
		})
		for _, c := range open {
			for _, i := range l {
				heldStep(t, env(), on(text, block(0, "l"), loop(0, "i"), c), i)
			}
		}
	}
}

// P10.2: each instruction in an Env where nothing is to be named, and in ones that Path would not stand on: Step asks nothing of them.
func TestStepInOtherEnvs(t *testing.T) {
	wrong := Env{
		Types: []api.FuncType{fn("i5", ""), fn("", "5"), fn("", "il"), fn("?", "?")}, Funcs: []int{0, 1, 2, 3}, Tables: 2, Mems: math.MaxInt,
		Globals: []Glob{{0, true}, {5, false}, {5, true}}, Locals: vals("?5l"), Results: vals("il"),
	}
	short := Env{Tables: -1, Mems: math.MinInt, Results: vals("5")}
	for _, e := range []Env{bare(), wrong, short, {Tables: 1, Results: []byte{}}, {Mems: 1, Results: vals("?")}} {
		for _, text := range []string{"", "i", "l", "?", "il", "li", "lli", "??i"} {
			for _, s := range []stack.Stack{on(text), on(text, block(0, "")), on(text, dead(block(0, "i"))), on(text, when(0, "l"), loop(0, ""))} {
				for _, i := range some() {
					heldStep(t, e, s, i)
				}
			}
		}
	}
}

// pieces are instructions of which bodies are made.
func pieces() []api.Instr {
	return code("unreachable nop block block:i loop loop:l if if:i else end br:0 br:1 br:2 br_if:0 br_if:1 br_table:1,0 return call:0 call:2 call_indirect:1 drop select local.get:0 local.set:1 local.tee:1 global.set:0 global.set:1 i32.load:2 i64.store:4 memory.grow i32 i64 i32.add i64.eqz wrap")
}

// P10.3: all bodies of up to three instructions, of Results of none and of each type.
func TestEveryShortBody(t *testing.T) {
	for _, results := range []string{"", "i", "l"} {
		e, fits := env(), 0
		e.Results = vals(results)
		everyList(pieces(), 3, func(l []api.Instr) {
			if heldBody(t, e, l) == api.OK {
				fits++
			}
		})
		if fits < 200 {
			t.Errorf("of Results %q just %d of them were OK", results, fits)
		}
	}
}

// lot is a row of numbers that look as if drawn by lot, the same each time.
type lot uint64

func (n *lot) below(most int) int {
	*n = *n*6364136223846793005 + 1442695040888963407
	return int(uint64(*n)>>33) % most
}

// grown is a body that is gone on with by what fits, mostly, and at the end by what ends it.
func grown(n *lot, e Env, size int) []api.Instr {
	var l []api.Instr
	s, _ := stack.Open(stack.Stack{}, 2, e.Results)
	of := pieces()
	take := func(i api.Instr) bool {
		next, f := stepByWords(e, s, i)
		if f == api.OK {
			l, s = append(l, i), next
		}
		return f == api.OK
	}
	for len(l) < size {
		take(of[n.below(len(of))])
	}
	for len(s.Ctrls) > 1 {
		for !take(one("end")) && !take(one("else")) && !take(one("drop")) {
			take(api.Instr{Op: 65 + n.below(2)})
		}
	}
	if n.below(8) > 0 {
		for range s.Vals {
			take(one("drop"))
		}
		for _, v := range e.Results {
			take(api.Instr{Op: 65 + int(127-v)})
		}
	}
	return l
}

// P10.3: longer bodies, and the same with one instruction left out, or another one in its place.
func TestLongerBodies(t *testing.T) {
	n, fits, wrong := lot(30), 0, 0
	tell := func(e api.Errno) {
		if e == api.OK {
			fits++
		} else {
			wrong++
		}
	}
	for k := range 1500 {
		e := env()
		e.Results = vals([]string{"", "i", "l"}[k%3])
		l := grown(&n, e, 3+k%40)
		tell(heldBody(t, e, l))
		at := n.below(len(l))
		tell(heldBody(t, e, slices.Concat(l[:at], l[at+1:])))
		tell(heldBody(t, e, slices.Concat(l[:at], []api.Instr{pieces()[n.below(len(pieces()))]}, l[at+1:])))
	}
	if fits < 1200 || wrong < 1000 {
		t.Errorf("%d were OK, %d not", fits, wrong)
	}
}

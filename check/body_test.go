package check

import (
	"bytes"
	"math"
	"slices"
	"testing"

	"avocet/api"
	"avocet/body"
	"avocet/stack"
)

// gives is an Env of Results.
func gives(results string) Env {
	e := env()
	e.Results = vals(results)
	return e
}

// bodyIs asks what Body tells, and that Path tells the same, but of how a body leaves off.
func bodyIs(t *testing.T, e Env, l []api.Instr, why api.Errno) {
	t.Helper()
	if f := Body(e, l); f != why {
		t.Errorf("Body of %v = %d; want %d", l, f, why)
	}
	heldBody(t, e, l)
}

// pathFails asks that neither Path nor Body stand on something, and that Path tells nothing but why.
func pathFails(t *testing.T, e Env, l []api.Instr, why api.Errno) {
	t.Helper()
	if path, f := Path(e, l); len(path) != 0 || f != why {
		t.Errorf("Path of %v in %v = %v, %d; want %d", l, e, path, f, why)
	}
	if f := Body(e, l); f != why {
		t.Errorf("Body of %v in %v = %d; want %d", l, e, f, why)
	}
}

// The chapter's example.
func TestExample(t *testing.T) {
	bodyIs(t, gives(""), code("i32 drop"), api.OK)
	bodyIs(t, gives("i"), code("i32 drop"), api.ErrType)
}

// P10.3: bodies that are OK.
func TestBodiesThatAreOK(t *testing.T) {
	for _, text := range []string{
		"i32", "unreachable", "i32 return", "i32 br:0", "i32 nop", "local.get:0", "global.get:0", "memory.size", "unreachable i32.add", "unreachable select", "i32 return i64 drop i32", "i32 br:0 i32",
		"i32 return unreachable drop drop i32.add", "i32 i32 br_if:0", "i32 i32 br_table:0,0", "i32 if end i32", "i32 if:i i32 else i32 end", "i32 if:i unreachable else i32 end", "i32 if:i i32 br:1 else i32 end",
		"block:i i32 br:0 end", "block:i i32 br:1 end", "block:i i32 return end", "block i32 br:1 end i32", "block block block br:2 end end end i32", "loop:i br:0 end", "loop i32 br_if:0 end i32", "loop:l i64 end drop i32", "loop i32 br:1 end unreachable",
		"block:l i64 i32 br_if:0 end i64.eqz", "block block i32 br_table:0,1,0 end end i32", "loop block i32 br_table:0 end end i32", "loop block i32 br_table:0,1,1 end end i32", "i32 i64 call:0 i64.eqz", "call:2", "i64 i64 i32 call:3 i32", "i32 call_indirect:3", "i32 i64 i32 call_indirect:1 i64.eqz",
		"i32 local.tee:0", "i64 local.set:1 i32", "i64 global.set:1 i32", "i32 i32.load:2", "i32 i64.load:3 wrap", "i32 i64 i64.store:3 i32", "i32 memory.grow", "i64 i64 i32 select wrap", "i32 extend i64 i64.add i64.eqz", "block unreachable end i32", "block:i unreachable end",
		"unreachable block:l i64 end wrap", "unreachable i64 i32 select i64.eqz", "unreachable i32 select i64.eqz", "unreachable br_if:0", "unreachable if:l i64 else i64 end i64.eqz",
	} {
		bodyIs(t, gives("i"), code(text), api.OK)
	}
	for _, text := range []string{"", "nop", "i32 drop", "return", "br:0", "unreachable", "loop br:0 end", "loop br:1 end", "i32 if else end", "i32 br_if:0", "i32 br_table:0", "unreachable br_table:0"} {
		bodyIs(t, gives(""), code(text), api.OK)
	}
	bodyIs(t, bare(), nil, api.OK)
	bodyIs(t, gives("l"), code("i64"), api.OK)
}

// P10.3: bodies that aren't: what Step tells first, or a last Close that is not OK.
func TestBodiesThatAreNot(t *testing.T) {
	for _, x := range []struct {
		text string
		e    api.Errno
	}{
		{"", api.ErrType}, {"nop", api.ErrType}, {"i64", api.ErrType}, {"i32 i32", api.ErrType}, {"i64 i32", api.ErrType}, {"unreachable i64", api.ErrType}, {"unreachable i32 i32", api.ErrType}, {"i32 drop", api.ErrType}, {"unreachable i64 i32", api.ErrType},
		{"i32 return i64", api.ErrType}, {"i32 br:0 i64 i32.eqz", api.ErrType}, {"drop i32", api.ErrType}, {"i32 block drop end i32", api.ErrType}, {"block i32 end", api.ErrType}, {"block:i end", api.ErrType}, {"block:l i32 end", api.ErrType}, {"block:i i32 i32 end", api.ErrType},
		{"i32 if:i i32 end", api.ErrType}, {"i32 if:i i32 else end", api.ErrType}, {"i32 if:i else i32 end", api.ErrType}, {"i32 if:i i64 else i32 end", api.ErrType}, {"i64 if end i32", api.ErrType}, {"i32 if i32 else end i32", api.ErrType}, {"unreachable if:i i32 end", api.ErrType}, {"if end i32", api.ErrType},
		{"i64 return", api.ErrType}, {"return", api.ErrType}, {"br:0", api.ErrType}, {"i64 br:0", api.ErrType}, {"block:l i32 br:0 end wrap", api.ErrType}, {"block:l i64 br:1 end wrap", api.ErrType}, {"block:i br:0 end", api.ErrType}, {"loop i64 br_if:0 end i32", api.ErrType},
		{"i32 br_if:0 i32", api.ErrType}, {"block i32 i32 br_table:0,1 end i32", api.ErrType}, {"i32 global.set:0 i32", api.ErrType}, {"i32 i32.load:3", api.ErrType}, {"i64 i32.load:0", api.ErrType}, {"i64 i64 call:0 i64.eqz", api.ErrType}, {"i64 i32 i32 select", api.ErrType},
		{"br:1", api.ErrName}, {"i32 br_if:1", api.ErrName}, {"block br:2 end i32", api.ErrName}, {"i32 br_table:0,1", api.ErrName}, {"call:4", api.ErrName}, {"call:8 i32", api.ErrName}, {"i32 call_indirect:4", api.ErrName}, {"local.get:2", api.ErrName}, {"local.set:2", api.ErrName}, {"global.get:3", api.ErrName}, {"global.set:3", api.ErrName},
		{"drop call:4", api.ErrType}, {"call:4 drop", api.ErrName}, {"i32 i32 call:4", api.ErrName}, {"i64 br:5", api.ErrName},
	} {
		bodyIs(t, gives("i"), code(x.text), x.e)
	}
	for _, text := range []string{"i32", "i64", "unreachable i32", "return i32", "block:i i32 end", "br:0 i64"} {
		bodyIs(t, gives(""), code(text), api.ErrType)
		if path, f := Path(gives(""), code(text)); len(path) != len(code(text))+1 || f != api.OK {
			t.Errorf("Path of %q = %v, %d", text, path, f)
		}
	}
	for _, l := range [][]api.Instr{{{Op: 6}}, {{Op: 65}, {Op: 1, A: 1}}, {{Op: 65}, {Op: 65, K: 1 << 32}}, {{Op: 12, A: -1}}, {{Op: 65}, {Op: 40, A: 1 << 32}}, {{Op: 2, A: 64}, {Op: 65}, {Op: 11}}, {{Op: -1}}, {{Op: math.MaxInt}}, {{Op: 65}, {Op: 14, Labels: make([]int, 65)}}} {
		pathFails(t, gives("i"), l, api.ErrArg)
		pathFails(t, gives("i"), slices.Concat(code("i64 i32.eqz"), l), api.ErrType)
		pathFails(t, gives("i"), slices.Concat(code("call:9"), l), api.ErrName)
	}
}

// notNested are bodies of which some end, or else, is missing or too much.
func notNested() []string {
	return []string{"end", "else", "block", "loop", "if", "i32 end", "i32 if", "i32 if else", "block end end", "block block end", "block else end", "loop else end", "i32 if else else end", "i32 if block else end end", "i32 if end else", "else end", "end block", "i32 if i32 if else else end end"}
}

// wrongEnvs are Envs on which no body stands, each for one thing.
func wrongEnvs() []Env {
	var l []Env
	add := func(f func(*Env)) {
		e := env()
		f(&e)
		l = append(l, e)
	}
	for _, results := range []string{"ii", "il", "lll", "?", "5", "\x40", "\xff", "\x80", "\x7d", "i5"} {
		add(func(e *Env) { e.Results = vals(results) })
	}
	for _, locals := range []string{"?", "5", "i?", "?i", "ilililil\x7d", "\xff", "\x40i"} {
		add(func(e *Env) { e.Locals = vals(locals) })
	}
	for _, f := range []api.FuncType{fn("", "il"), fn("", "?"), fn("?", ""), fn("i5", "i"), fn("", "\x40"), fn("iiiiiiiiiiiiiiiii", ""), fn("lil\xff", "")} {
		add(func(e *Env) { e.Types = append(e.Types, f) })
		add(func(e *Env) { e.Types = append([]api.FuncType{f}, e.Types...) })
		add(func(e *Env) { e.Types, e.Funcs = []api.FuncType{f}, nil })
	}
	for _, v := range []byte{0, 1, 64, 125, 128, 255} {
		for _, mut := range []bool{false, true} {
			add(func(e *Env) { e.Globals = append(e.Globals, Glob{v, mut}) })
			add(func(e *Env) { e.Globals = append([]Glob{{v, mut}}, e.Globals...) })
		}
	}
	return l
}

// P10.3: what is not nested is ErrForm ahead of all else; an Env that may not be ErrArg ahead of what Step tells.
func TestPathStandsOnNothingElse(t *testing.T) {
	for _, text := range notNested() {
		pathFails(t, gives("i"), code(text), api.ErrForm)
		pathFails(t, bare(), code(text), api.ErrForm)
		pathFails(t, gives("i"), code("drop call:9 "+text), api.ErrForm)
		pathFails(t, gives("i"), append([]api.Instr{{Op: -5}}, code(text)...), api.ErrForm)
	}
	for _, e := range wrongEnvs() {
		for _, text := range []string{"", "i32", "unreachable", "drop", "br:7", "call:99"} {
			pathFails(t, e, code(text), api.ErrArg)
		}
		pathFails(t, e, []api.Instr{{Op: 6}}, api.ErrArg)
		for _, text := range notNested() {
			pathFails(t, e, code(text), api.ErrForm)
		}
	}
	both := Env{Types: []api.FuncType{fn("5", "ii")}, Globals: []Glob{{}}, Locals: vals("?"), Results: vals("??")}
	pathFails(t, both, nil, api.ErrArg)
	pathFails(t, both, code("drop"), api.ErrArg)
	pathFails(t, both, code("end"), api.ErrForm)
}

// P10.3: of an Env, Path asks nothing else: neither where functions' types are, nor of the numbers of all, nor of how many there are.
func TestPathStandsOnMuch(t *testing.T) {
	e := Env{Funcs: []int{-1, 5, math.MinInt, math.MaxInt}, Tables: -1, Mems: math.MinInt, Locals: bytes.Repeat(vals("il"), 200), Globals: slices.Repeat([]Glob{{127, true}, {126, false}}, 100), Types: slices.Repeat([]api.FuncType{fn("iiiiiiiiiiiiiiii", "l")}, 200)}
	bodyIs(t, e, nil, api.OK)
	bodyIs(t, e, code("local.get:399 local.set:1 global.get:198 global.set:0"), api.OK)
	bodyIs(t, e, code("call:0"), api.ErrName)
	e.Funcs = append(e.Funcs, 199)
	bodyIs(t, e, slices.Concat(slices.Repeat(code("i32"), 16), code("call:4 drop")), api.OK)
	bodyIs(t, Env{Results: []byte{}, Locals: []byte{}, Globals: []Glob{}, Types: []api.FuncType{}, Tables: math.MaxInt}, []api.Instr{}, api.OK)
}

// P10.3: Path's stacks, one ahead of each instruction and one behind the last.
func TestPath(t *testing.T) {
	out := block(0, "i")
	for _, x := range []struct {
		text  string
		right []stack.Stack
	}{
		{"", []stack.Stack{on("", out)}},
		{"i64", []stack.Stack{on("", out), on("l", out)}},
		{"i32 i64 drop", []stack.Stack{on("", out), on("i", out), on("il", out), on("i", out)}},
		{"i32 return i64", []stack.Stack{on("", out), on("i", out), on("", dead(out)), on("l", dead(out))}},
		{"i64 i32 if:l i64 nop else unreachable end i64.add", []stack.Stack{
			on("", out), on("l", out), on("li", out), on("l", out, when(1, "l")), on("ll", out, when(1, "l")), on("ll", out, when(1, "l")), on("l", out, opened(5, 1, "l")), on("l", out, dead(opened(5, 1, "l"))), on("ll", out), on("l", out),
		}},
		{"loop block:i i32 br:1 end drop end", []stack.Stack{
			on("", out), on("", out, loop(0, "")), on("", out, loop(0, ""), block(0, "i")), on("i", out, loop(0, ""), block(0, "i")), on("", out, loop(0, ""), dead(block(0, "i"))), on("i", out, loop(0, "")), on("", out, loop(0, "")), on("", out),
		}},
		{"unreachable select i64 i32 select", []stack.Stack{on("", out), on("", dead(out)), on("?", dead(out)), on("?l", dead(out)), on("?li", dead(out)), on("l", dead(out))}},
	} {
		if path, f := Path(gives("i"), code(x.text)); f != api.OK || !slices.EqualFunc(path, x.right, sameStack) {
			t.Errorf("Path of %q = %v, %d; want %v", x.text, path, f, x.right)
		}
	}
	for _, results := range []string{"", "i", "l"} {
		if path, f := Path(gives(results), nil); f != api.OK || len(path) != 1 || !sameStack(path[0], on("", block(0, results))) {
			t.Errorf("Path of nothing = %v, %d", path, f)
		}
	}
}

// P10.3: long and deep bodies: nothing but what is nested is asked of how many there are, and how deep.
func TestLongAndDeepBodies(t *testing.T) {
	for _, n := range []int{32, 33, 500} {
		l := slices.Concat(slices.Repeat(code("block:l"), n), code("i64 br:0"), slices.Repeat(code("end"), n), code("drop"))
		if f := Body(gives(""), l); f != api.OK {
			t.Errorf("Body of %d blocks = %d", n, f)
		}
		l[n+1].A = n - 1
		if path, f := Path(gives(""), l); f != api.OK || len(path) != len(l)+1 || len(path[n].Ctrls) != n+1 {
			t.Errorf("Path of %d blocks = %d stacks, %d", n, len(path), f)
		}
		l[n+1].A = n
		if f := Body(gives("l"), l[:len(l)-1]); f != api.OK {
			t.Errorf("Body of a branch out of %d blocks = %d", n, f)
		}
		l[n+1].A = n + 1
		pathFails(t, gives("l"), l, api.ErrName)
	}
	for _, n := range []int{4096, 4097, 20000} {
		l := slices.Concat(slices.Repeat(code("i32"), n/2), slices.Repeat(code("drop"), n/2))
		if f := Body(gives(""), l); f != api.OK {
			t.Errorf("Body of %d instructions = %d", n, f)
		}
	}
	l := slices.Repeat(code("i32 drop"), 20000)
	if path, f := Path(gives(""), l); f != api.OK || len(path) != len(l)+1 {
		t.Errorf("Path of %d instructions = %d stacks, %d", len(l), len(path), f)
	}
}

// inside is something that is run inside of: where it begins, and how many values there were.
type inside struct{ at, height int }

// run is a body that is run, of which each value tells its type: all of its ways, each as often as there is something new on it.
type run struct {
	e       Env
	l       []api.Instr
	matches []body.Match
	seen    map[string]bool
	wrong   string
}

// runs tells what goes wrong when a body is run, on any way; nothing, if nothing does.
func runs(e Env, l []api.Instr) string {
	m, _ := body.Matches(l)
	r := &run{e: e, l: l, matches: m, seen: map[string]bool{}}
	r.from(0, nil, nil)
	return r.wrong
}

// check keeps what is wrong.
func (r *run) check(ok bool, what string) bool {
	if !ok && r.wrong == "" {
		r.wrong = what
	}
	return ok && r.wrong == ""
}

// ends tells whether values end with others.
func ends(v, with []byte) bool { return bytes.HasSuffix(v, with) }

// from goes on from a place, with values, and with what one is inside of.
func (r *run) from(at int, v []byte, in []inside) {
	key := string(v) + "|" + string(rune(at)) + "|"
	for _, x := range in {
		key += string(rune(x.at)) + string(rune(x.height))
	}
	if r.seen[key] || r.wrong != "" {
		return
	}
	r.seen[key] = true
	if at == len(r.l) {
		r.check(len(in) == 0 && bytes.Equal(v, r.e.Results), "what is left isn't Results")
		return
	}
	v, in = slices.Clone(v), slices.Clone(in)
	i := r.l[at]
	switch i.Op {
	case 0:
	case 2, 3:
		r.from(at+1, v, append(in, inside{at, len(v)}))
	case 4:
		if !r.check(ends(v, []byte{127}), "no I32 for an if") {
			return
		}
		v = v[:len(v)-1]
		r.from(at+1, v, append(slices.Clone(in), inside{at, len(v)}))
		if m := r.matches[at]; m.Else >= 0 {
			r.from(m.Else+1, v, append(slices.Clone(in), inside{at, len(v)}))
		} else {
			r.check(i.A == 0, "nothing is left by an if")
			r.from(m.End+1, v, in)
		}
	case 5:
		r.from(r.matches[at].End, v, in)
	case 11:
		x := in[len(in)-1]
		if r.check(bytes.Equal(v[x.height:], r.leaves(x)), "an end of other values") {
			r.from(at+1, v, in[:len(in)-1])
		}
	case 12:
		r.branch(i.A, v, in)
	case 13, 14:
		if !r.check(ends(v, []byte{127}), "no I32 for a branch") {
			return
		}
		v = v[:len(v)-1]
		for _, n := range append([]int{i.A}, i.Labels...) {
			r.branch(n, slices.Clone(v), slices.Clone(in))
		}
		if i.Op == 13 {
			r.from(at+1, v, in)
		}
	case 15:
		r.branch(len(in), v, in)
	default:
		r.does(at, v, in)
	}
}

// does is an instruction that goes on with the next one: its values lie above those that were there when the innermost one was opened.
func (r *run) does(at int, v []byte, in []inside) {
	i, floor := r.l[at], 0
	if len(in) > 0 {
		floor = in[len(in)-1].height
	}
	var takes, gives []byte
	switch i.Op {
	case 26, 27:
		n := map[int]int{26: 1, 27: 3}[i.Op]
		if !r.check(len(v)-floor >= n, "too few values") {
			return
		}
		top := v[len(v)-n:]
		if takes = top; n == 3 {
			r.check(top[0] == top[1] && top[2] == 127, "a select of others")
			gives = top[:1]
		}
	case 1:
	default:
		takes, gives = r.shape(i)
	}
	if r.check(len(v)-floor >= len(takes) && ends(v, takes), "other values than are wanted") {
		r.from(at+1, append(slices.Clone(v[:len(v)-len(takes)]), gives...), in)
	}
}

// shape is what an instruction takes and gives.
func (r *run) shape(i api.Instr) (takes, gives []byte) {
	switch i.Op {
	case 16:
		f := r.e.Types[r.e.Funcs[i.A]]
		return f.Params, f.Results
	case 17:
		f := r.e.Types[i.A]
		return append(slices.Clone(f.Params), 127), f.Results
	case 32:
		return nil, r.e.Locals[i.A : i.A+1]
	case 33:
		return r.e.Locals[i.A : i.A+1], nil
	case 34:
		return r.e.Locals[i.A : i.A+1], r.e.Locals[i.A : i.A+1]
	case 36:
		r.check(r.e.Globals[i.A].Mut, "a global that is set")
		return []byte{r.e.Globals[i.A].Val}, nil
	case 40, 64, 69:
		return vals("i"), vals("i")
	case 55:
		return vals("il"), nil
	case 65:
		return nil, vals("i")
	case 66:
		return nil, vals("l")
	case 106:
		return vals("ii"), vals("i")
	case 80, 167:
		return vals("l"), vals("i")
	}
	r.check(false, "an instruction that isn't known here")
	return nil, nil
}

// leaves is what the end of something leaves.
func (r *run) leaves(x inside) []byte {
	if a := r.l[x.at].A; a != 0 {
		return []byte{byte(a)}
	}
	return nil
}

// branch goes out of the n-th, or back to where it begins, if it is a loop.
func (r *run) branch(n int, v []byte, in []inside) {
	if n == len(in) {
		r.check(ends(v, r.e.Results), "a branch out of all without Results")
		return
	}
	k := len(in) - 1 - n
	x := in[k]
	if r.l[x.at].Op == 3 {
		r.from(x.at+1, v[:x.height], in[:k+1])
		return
	}
	left := r.leaves(x)
	if r.check(ends(v, left) && len(v)-len(left) >= x.height, "a branch without what it leaves") {
		r.from(r.matches[x.at].End+1, append(slices.Clone(v[:x.height]), left...), in[:k])
	}
}

// P10.4: what Body tells OK of leaves Results, and nothing else, on all ways on which it can be run: all short bodies, and lots of long ones.
func TestWhatIsOKLeavesResults(t *testing.T) {
	run, ended := 0, 0
	leaves := func(e Env, l []api.Instr) {
		if Body(e, l) != api.OK {
			return
		}
		if run++; !bytes.Equal(e.Results, nil) {
			ended++
		}
		if wrong := runs(e, l); wrong != "" {
			t.Errorf("%v, of Results %v: %s", l, e.Results, wrong)
		}
	}
	of := code("unreachable block:i loop:i if if:i else end br:0 br:1 br_if:0 br_if:1 br_table:1,0 return drop select i32 i64 i32.add i64.eqz")
	for _, results := range []string{"", "i", "l"} {
		everyList(of, 4, func(l []api.Instr) { leaves(gives(results), l) })
	}
	n := lot(4)
	for k := range 3000 {
		e := gives([]string{"", "i", "l"}[k%3])
		l := grown(&n, e, 3+k%60)
		leaves(e, l)
		at := n.below(len(l))
		leaves(e, slices.Concat(l[:at], l[at+1:]))
		leaves(e, slices.Concat(l[:at], []api.Instr{pieces()[n.below(len(pieces()))]}, l[at:]))
	}
	if run < 8000 || ended < 4000 {
		t.Errorf("just %d bodies were run, %d of them to give something", run, ended)
	}
}

// P10.4 is held by ways that are gone: a body that leaves something else is told as wrong by them.
func TestRunsTellWhatIsWrong(t *testing.T) {
	for _, text := range []string{"", "i64", "i32 i32", "i64 i32", "block:i i64 end", "block i32 end", "i32 if i32 end", "i32 if:i i32 end", "block:l i64 br:1 end wrap", "loop i32 i32 br_if:1 end i32", "i32 i32 block drop end drop", "i32 i64 i32 select", "br:0", "i64 return", "i32 i64 i32 br_table:0", "drop i32", "i32 global.set:0 i32"} {
		if runs(gives("i"), code(text)) == "" {
			t.Errorf("nothing is wrong with %q", text)
		}
	}
}

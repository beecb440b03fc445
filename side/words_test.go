package side

import (
	"reflect"
	"slices"
	"strconv"
	"strings"
	"testing"

	"avocet/api"
	"avocet/body"
	"avocet/check"
	"avocet/instr"
	"avocet/leb"
)

// vals are types, a letter each: i and l are I32 and I64.
func vals(text string) []byte {
	return []byte(strings.NewReplacer("i", "\x7f", "l", "\x7e").Replace(text))
}

// letters are the codes of these tests' bodies.
func letters() map[string]int {
	return map[string]int{
		"unreachable": 0, "nop": 1, "block": 2, "loop": 3, "if": 4, "else": 5, "end": 11, "br": 12, "br_if": 13, "br_table": 14, "return": 15, "call": 16, "call_indirect": 17, "drop": 26, "select": 27,
		"local.get": 32, "local.set": 33, "local.tee": 34, "global.get": 35, "global.set": 36, "i32.load": 40, "i64.store": 55, "memory.size": 63, "memory.grow": 64,
		"i32": 65, "i64": 66, "i32.eqz": 69, "i64.eqz": 80, "i32.add": 106, "i64.add": 124, "wrap": 167, "extend": 172,
	}
}

// code are instructions: each is its name, and, behind a colon, the letter of what it leaves, the constant that it is, or numbers: Labels and A.
func code(text string) []api.Instr {
	var l []api.Instr
	for word := range strings.FieldsSeq(text) {
		name, args, more := strings.Cut(word, ":")
		op, ok := letters()[name]
		if !ok {
			panic(word)
		}
		i := api.Instr{Op: op}
		switch kind := instr.Kind(op); {
		case !more:
		case kind == instr.Block:
			i.A = int(vals(args)[0])
		case kind == instr.Const32 || kind == instr.Const64:
			i.K = uint64(numbers(args)[0])
		default:
			n := numbers(args)
			i.A, i.Labels = n[len(n)-1], n[:len(n)-1]
		}
		l = append(l, i)
	}
	return l
}

// numbers stand between commas or spaces.
func numbers(text string) []int {
	var l []int
	for word := range strings.FieldsFuncSeq(text, func(r rune) bool { return r == ',' || r == ' ' }) {
		n, err := strconv.Atoi(word)
		if err != nil {
			panic(err)
		}
		l = append(l, n)
	}
	return l
}

// laid are the bytes of instructions, nested or not, with an end behind.
func laid(l []api.Instr) []byte {
	var b []byte
	for _, i := range l {
		one, e := instr.Put(nil, i)
		if e != api.OK {
			panic(e)
		}
		b = append(b, one...)
	}
	return append(b, 11)
}

func fn(params, results string) api.FuncType {
	return api.FuncType{Params: vals(params), Results: vals(results)}
}

// gives is an Env in which much may be named, of Results.
func gives(results string) check.Env {
	return check.Env{
		Types:   []api.FuncType{fn("", ""), fn("il", "l"), fn("lli", ""), fn("", "i")},
		Funcs:   []int{1, 0, 3, 2},
		Tables:  1,
		Mems:    1,
		Globals: []check.Glob{{Val: 127}, {Val: 126, Mut: true}, {Val: 127, Mut: true}},
		Locals:  vals("il"),
		Results: vals(results),
	}
}

// startsByWords are where instructions begin, one behind the other, and their end, which is the byte ahead of the place behind.
func startsByWords(b []byte, at, behind int) []int {
	var l []int
	for at < behind {
		l = append(l, at)
		switch op := int(b[at]); instr.Kind(op) {
		case instr.Block, instr.MemOp:
			at += 2
		case instr.Index:
			at = pastNumbers(b, at+1, 1)
		case instr.CallInd:
			at = pastNumbers(b, at+1, 1) + 1
		case instr.MemArg:
			at = pastNumbers(b, at+1, 2)
		case instr.BrTable:
			n, from, _ := leb.ReadU(b, at+1, 32)
			at = pastNumbers(b, from, int(n)+1)
		case instr.Const32, instr.Const64:
			at = pastNumbers(b, at+1, 1)
		default:
			at++
		}
	}
	return l
}

// pastNumbers is the place behind n numbers, of which each one's last byte is below 128.
func pastNumbers(b []byte, at, n int) int {
	for n > 0 {
		if b[at] < 128 {
			n--
		}
		at++
	}
	return at
}

// opener is where what the k-th instruction stands in begins, the label-th one, the innermost 0; -1 for all of the body.
func opener(l []api.Instr, k, label int) int {
	for ended := 0; k > 0; {
		k--
		switch {
		case l[k].Op == 11:
			ended++
		case l[k].Op >= 2 && l[k].Op <= 4 && ended > 0:
			ended--
		case l[k].Op >= 2 && l[k].Op <= 4 && label > 0:
			label--
		case l[k].Op >= 2 && l[k].Op <= 4:
			return k
		}
	}
	return -1
}

// behindPart is the place in l behind the else, if that is asked for and there is one, or the end, of what begins at k.
func behindPart(l []api.Instr, k int, orElse bool) int {
	deep := body.Depths(l)
	for n := k + 1; ; n++ {
		if deep[n] == deep[k] && (l[n].Op == 11 || orElse && l[n].Op == 5) {
			return n + 1
		}
	}
}

// leaves is how many values the k-th instruction leaves, which begins something.
func leaves(l []api.Instr, k int) int {
	if l[k].A != 0 {
		return 1
	}
	return 0
}

// branchByWords is the jump out of the k-th instruction to a label.
func branchByWords(e check.Env, l []api.Instr, starts, heights []int, k, label int) Jump {
	to, ok := body.Target(l, k, label)
	if !ok {
		panic("no target")
	}
	j := Jump{At: starts[k], To: starts[to], Arity: len(e.Results)}
	if to < len(l) && l[to].Op == 11 {
		j.To = starts[to+1]
	}
	if out := opener(l, k, label); out >= 0 {
		j.Height, j.Arity = heights[out+1], leaves(l, out)
		if l[out].Op == 3 {
			j.Arity = 0
		}
	}
	return j
}

// madeByWords is Make, word by word of P12.1. What stands in something has as many values below as there are behind what begins it.
func madeByWords(e check.Env, b []byte, at int) (Table, int, api.Errno) {
	l, behind, f := body.Read(b, at)
	if f != 0 {
		return Table{}, 0, f
	}
	if f := check.Body(e, l); f != 0 {
		return Table{}, 0, f
	}
	path, _ := check.Path(e, l)
	t := Table{Starts: startsByWords(b, at, behind)}
	for _, s := range path {
		t.Heights = append(t.Heights, len(s.Vals))
	}
	for k, i := range l {
		own := Jump{At: t.Starts[k]}
		switch i.Op {
		case 3:
			t.Loops = append(t.Loops, t.Starts[k])
		case 4:
			own.To, own.Height = t.Starts[behindPart(l, k, true)], t.Heights[k+1]
			t.Jumps = append(t.Jumps, own)
		case 5:
			out := opener(l, k, 0)
			own.To, own.Height = t.Starts[behindPart(l, k, false)], t.Heights[out+1]+leaves(l, out)
			t.Jumps = append(t.Jumps, own)
		case 12, 13, 14:
			for _, label := range slices.Concat(i.Labels, []int{i.A}) {
				t.Jumps = append(t.Jumps, branchByWords(e, l, t.Starts, t.Heights, k, label))
			}
		}
	}
	return t, behind, 0
}

func sameTable(a, b Table) bool {
	return slices.Equal(a.Starts, b.Starts) && slices.Equal(a.Jumps, b.Jumps) && slices.Equal(a.Loops, b.Loops) && slices.Equal(a.Heights, b.Heights)
}

// held holds a Make against the words, and what follows of it, and tells its error.
func held(t *testing.T, e check.Env, b []byte, at int) api.Errno {
	t.Helper()
	got, n, f := Make(e, b, at)
	right, m, g := madeByWords(e, b, at)
	if !sameTable(got, right) || n != m || f != g {
		t.Fatalf("Make of %v at %d = %v, %d, %d; want %v, %d, %d", b, at, got, n, f, right, m, g)
	}
	if f != api.OK {
		if !reflect.DeepEqual(got, Table{}) || n != 0 {
			t.Fatalf("Make of %v at %d = %v, %d beside the error %d", b, at, got, n, f)
		}
		return f
	}
	follows(t, e, b, at, got)
	return f
}

// follows asks of a table what P12.3 tells, and a bit more: where one goes on there are as many values as were left. (Where nobody comes to, there may be whichever, and so fewer to be counted.)
func follows(t *testing.T, e check.Env, b []byte, at int, x Table) {
	t.Helper()
	l, _, _ := body.Read(b, at)
	path, _ := check.Path(e, l)
	end := len(x.Starts) - 1
	for n, j := range x.Jumps {
		from, ok := slices.BinarySearch(x.Starts, j.At)
		to, goes := slices.BinarySearch(x.Starts, j.To)
		if !ok || from == end || !goes {
			t.Fatalf("of %v: %v is from none, or goes to none, of %v", b, j, x.Starts)
		}
		if n > 0 && j.At < x.Jumps[n-1].At {
			t.Fatalf("of %v: %v are in no order", b, x.Jumps)
		}
		if j.Height < 0 || j.Arity < 0 || j.Arity > 1 || j.Arity > 0 && b[j.At] <= 5 {
			t.Fatalf("of %v: %v has values that may not be", b, j)
		}
		in := path[from].Ctrls
		if !in[len(in)-1].Dead && j.Height+j.Arity > x.Heights[from] {
			t.Fatalf("of %v: %v has more values than the %d that are there", b, j, x.Heights[from])
		}
		if (to < end || !path[end].Ctrls[0].Dead) && j.Height+j.Arity != x.Heights[to] {
			t.Fatalf("of %v: %v leaves another height than %d", b, j, x.Heights[to])
		}
	}
	for _, place := range x.Loops {
		if _, ok := slices.BinarySearch(x.Starts, place); !ok || b[place] != 3 {
			t.Fatalf("of %v: no loop begins at %d", b, place)
		}
	}
}

// everyList calls f with each list of up to n of these.
func everyList[T any](of []T, n int, f func([]T)) {
	f(nil)
	if n == 0 {
		return
	}
	for _, x := range of {
		everyList(of, n-1, func(l []T) { f(append([]T{x}, l...)) })
	}
}

// P12.1: all bodies of up to four instructions of some that branch, and of up to three of more.
func TestEveryShortBody(t *testing.T) {
	few := code("unreachable block:i loop if:i else end br:0 br_if:1 br_table:0,1 i32")
	more := code("unreachable nop block block:i loop loop:l if if:i else end br:0 br:1 br_if:0 br_if:1 br_table:1,0 br_table:0 return call:2 drop select local.get:0 local.tee:1 i32 i64 i32.eqz")
	for _, results := range []string{"", "i", "l"} {
		fits := 0
		tell := func(l []api.Instr) {
			if held(t, gives(results), laid(l), 0) == api.OK {
				fits++
			}
		}
		everyList(few, 4, tell)
		everyList(more, 3, tell)
		if fits < 100 {
			t.Errorf("of Results %q just %d of them fit", results, fits)
		}
	}
}

// P12.1, P1: all lots of a few bytes that mean something, and of some that don't, from each place of them.
func TestEveryLotOfBytes(t *testing.T) {
	fits := 0
	everyList([]byte{0, 1, 2, 3, 4, 5, 11, 12, 14, 26, 64, 65, 127, 128}, 4, func(l []byte) {
		for _, front := range []int{0, 1} {
			for _, b := range [][]byte{l, append(slices.Clone(l), 11, 11)} {
				if len(b) >= front && held(t, gives("i"), b, front) == api.OK {
					fits++
				}
			}
		}
	})
	if fits < 100 {
		t.Errorf("just %d of them fit", fits)
	}
}

// lot is a row of numbers that look as if drawn by lot, the same each time.
type lot uint64

func (n *lot) below(most int) int {
	*n = *n*6364136223846793005 + 1442695040888963407
	return int(uint64(*n)>>33) % most
}

// grown is a body that fits, of about so many instructions: it is gone on with by what fits, and at the end by what ends it.
func grown(n *lot, e check.Env, size int) []api.Instr {
	var l []api.Instr
	path, _ := check.Path(e, nil)
	s := path[0]
	take := func(i api.Instr) bool {
		next, f := check.Step(e, s, i)
		if f == api.OK {
			l, s = append(l, i), next
		}
		return f == api.OK
	}
	of := code("unreachable nop block block:i block:l loop loop:i loop:l if if if:i if:l else else end end br:0 br:1 br:2 br_if:0 br_if:1 br_if:2 br_table:0 br_table:1,0 br_table:0,1,2 return drop select local.get:0 local.get:1 local.set:1 local.tee:0 i32 i32 i32 i64 i64 i32.add i64.eqz wrap")
	for len(l) < size {
		i := of[n.below(len(of))]
		if i.Op == 65 || i.Op == 66 {
			i.K = uint64(n.below(4))
		}
		if len(s.Ctrls) < 12 || instr.Kind(i.Op) != instr.Block {
			take(i)
		}
	}
	for len(s.Ctrls) > 1 {
		for !take(code("end")[0]) && !take(code("else")[0]) && !take(code("drop")[0]) {
			take(api.Instr{Op: 65 + n.below(2), K: uint64(n.below(4))})
		}
	}
	for len(s.Vals) > 0 {
		take(code("drop")[0])
	}
	for _, v := range e.Results {
		take(api.Instr{Op: 65 + int(127-v), K: 7})
	}
	return l
}

// P12.1: longer bodies, with bytes ahead and behind; and the same with one byte of another kind, or one less.
func TestLongerBodies(t *testing.T) {
	n, wrong := lot(12), 0
	for k := range 1500 {
		e := gives([]string{"", "i", "l"}[k%3])
		b := slices.Concat(make([]byte, k%5), laid(grown(&n, e, 3+k%60)), make([]byte, k%3))
		if f := held(t, e, b, k%5); f != api.OK {
			t.Fatalf("%v: %d; want a body that fits", b, f)
		}
		at := k%5 + n.below(len(b)-k%5)
		for _, spoilt := range [][]byte{slices.Concat(b[:at], b[at+1:]), slices.Concat(b[:at], []byte{byte(n.below(256))}, b[at+1:])} {
			if held(t, e, spoilt, k%5) != api.OK {
				wrong++
			}
		}
	}
	if wrong < 1000 {
		t.Errorf("just %d were wrong", wrong)
	}
}

package body

import (
	"bytes"
	"math"
	"slices"
	"testing"

	"avocet/api"
	"avocet/instr"
)

// limited holds Sane, Put and Read of nested instructions, that may be but for the limits, against whether these hold.
func limited(t *testing.T, name string, l []api.Instr, within bool) {
	t.Helper()
	if Sane(l) != within {
		t.Errorf("%s: Sane = %v", name, Sane(l))
	}
	if _, ok := Matches(l); !ok || len(Depths(l)) != len(l) {
		t.Errorf("%s: Matches %v, %d Depths of %d", name, ok, len(Depths(l)), len(l))
	}
	laid := layByWords(t, l)
	got, n, e := Read(laid, 0)
	if within {
		b, f := Put([]byte{9}, l)
		if !bytes.Equal(b[1:], laid) || f != api.OK || !equal(got, l) || n != len(laid) || e != api.OK {
			t.Errorf("%s: Put %d bytes, %d; Read %d, %d, %d", name, len(b), f, len(got), n, e)
		}
		return
	}
	refused(t, l)
	if len(got) != 0 || n != 0 || e != api.ErrLimit {
		t.Errorf("%s: Read = %d instructions, %d, %d; want ErrLimit", name, len(got), n, e)
	}
}

// filled is l with nops behind, so that it has n.
func filled(l []api.Instr, n int) []api.Instr { return slices.Concat(l, times(n-len(l), 1)) }

// P6.1, P6.2: how many there may be: ends and elses are counted, but not the end of all.
func TestHowMany(t *testing.T) {
	for _, n := range []int{4094, 4095, 4096, 4097, 4098, 5000} {
		limited(t, "nops", times(n, 1), n <= 4096)
		limited(t, "blocks", filled(slices.Repeat(ops(2, 11), n/2), n), n <= 4096)
		limited(t, "ifs", filled(slices.Repeat(ops(4, 5, 11), n/3), n), n <= 4096)
		limited(t, "a loop", slices.Concat(ops(3), times(n-2, 1), ops(11)), n <= 4096)
		limited(t, "an if", slices.Concat(ops(4), times(n-3, 1), ops(5, 11)), n <= 4096)
		limited(t, "deep ahead", filled(inside(32, 4, ops(1)), n), n <= 4096)
		limited(t, "deep behind", slices.Concat(times(n-65, 1), inside(32, 4, ops(1))), n <= 4096)
	}
}

// P6.1, P6.2: how deep there may be: what begins, turns and ends is one less deep than what stands in it.
func TestHowDeep(t *testing.T) {
	for _, op := range []int{2, 3, 4} {
		for n := 30; n <= 35; n++ {
			limited(t, "nothing in them", inside(n, op, nil), n-1 <= 32)
			limited(t, "a nop", inside(n, op, ops(1)), n <= 32)
			limited(t, "a branch", inside(n, op, ops(12)), n <= 32)
			limited(t, "an else in the deepest", inside(n-1, op, ops(4, 5, 11)), n-1 <= 32)
			limited(t, "a nop ahead of it", inside(n-1, op, ops(4, 1, 5, 11)), n <= 32)
			limited(t, "a nop behind it", inside(n-1, op, ops(4, 5, 1, 11)), n <= 32)
			limited(t, "a block ahead of it", inside(n-1, op, ops(4, 2, 11, 5, 11)), n <= 32)
			limited(t, "a block behind it", inside(n-1, op, ops(4, 5, 2, 11, 11)), n <= 32)
			limited(t, "behind others", slices.Concat(inside(32, op, ops(1)), ops(1), inside(n, op, ops(1))), n <= 32)
			limited(t, "with elses", slices.Concat(times(n, 4), ops(1), slices.Repeat(ops(5, 11), n)), n <= 32)
			limited(t, "in elses", slices.Concat(slices.Repeat(ops(4, 5), n), ops(1), times(n, 11)), n <= 32)
		}
	}
}

// P6.1: both limits at once, and one of them with what is not nested or may not be.
func TestLimitsAtOnce(t *testing.T) {
	limited(t, "too many and too deep", filled(inside(33, 2, ops(1)), 4097), false)
	limited(t, "too deep behind too many", slices.Concat(times(4096, 1), inside(33, 2, ops(1))), false)
	isNothing(t, append(times(4096, 1), ops(11)...))
	isNothing(t, append(times(4097, 1), ops(5)...))
	isNothing(t, slices.Concat(inside(33, 2, ops(1)), ops(2)))
	refused(t, slices.Concat(times(4096, 1), ops(6)))
	refused(t, slices.Concat(inside(33, 2, ops(1)), ops(6)))
}

// bytesOf are the bytes of instructions without an end behind, as they are in the middle of more.
func bytesOf(t *testing.T, l []api.Instr) []byte {
	t.Helper()
	b := layByWords(t, l)
	return b[:len(b)-1]
}

// readAs holds what Read says of bytes that are wrong.
func readAs(t *testing.T, name string, want api.Errno, parts ...[]byte) {
	t.Helper()
	b := slices.Concat(parts...)
	for _, front := range [][]byte{nil, {11, 5}} {
		if l, n, e := Read(slices.Concat(front, b), len(front)); len(l) != 0 || n != 0 || e != want {
			t.Errorf("%s: Read of %d bytes = %d instructions, %d, %d; want %d", name, len(b), len(l), n, e, want)
		}
	}
}

// P6.2: of one instruction, instr's error is ahead of an else that may not be, and that ahead of the limits.
func TestFirstErrorOfOne(t *testing.T) {
	many, some := bytesOf(t, times(4096, 1)), bytesOf(t, times(4095, 1))
	manyInIf := bytesOf(t, append(ops(4), times(4095, 1)...))
	deep := bytesOf(t, times(33, 2))
	for _, x := range []struct {
		name        string
		front, back []byte
		want        api.Errno
	}{
		{"the 4097th is missing", many, nil, api.ErrShort},
		{"the 4097th is no code", many, []byte{6, 11}, api.ErrForm},
		{"the 4097th has too many labels", many, []byte{14, 65, 11}, api.ErrLimit},
		{"the 4097th is cut short", many, []byte{2}, api.ErrShort},
		{"the 4097th is an else of none", many, []byte{5, 11}, api.ErrForm},
		{"the 4097th is an else of one", manyInIf, []byte{5, 11, 11}, api.ErrLimit},
		{"the 4097th is an end of one", manyInIf, []byte{11, 11}, api.ErrLimit},
		{"the 4097th is a nop", many, []byte{1}, api.ErrLimit},
		{"the 4097th is a block", many, []byte{2, 64}, api.ErrLimit},
		{"the 4097th is missing, the 4096th an else of none", some, []byte{5}, api.ErrForm},
		{"the 4096th is no code", some, []byte{6}, api.ErrForm},
		{"too deep and missing", deep, nil, api.ErrShort},
		{"too deep and no code", deep, []byte{6, 11}, api.ErrForm},
		{"too deep and cut short", deep, []byte{65, 128}, api.ErrShort},
		{"an else of none in the deepest", deep, []byte{5, 11}, api.ErrForm},
		{"too deep", deep, []byte{1}, api.ErrLimit},
		{"too deep a block", deep, []byte{2, 64}, api.ErrLimit},
		{"too deep a branch", deep, []byte{12, 0}, api.ErrLimit},
		{"too deep behind an end and a block", deep, []byte{11, 2, 64, 1}, api.ErrLimit},
		{"not too deep behind an end, and cut short", deep, []byte{11, 1}, api.ErrShort},
		{"too deep behind the else in the deepest", bytesOf(t, append(times(32, 2), ops(4, 5)...)), []byte{1}, api.ErrLimit},
		{"a second else in the deepest", bytesOf(t, append(times(32, 2), ops(4, 5)...)), []byte{5}, api.ErrForm},
		{"nothing behind the else in the deepest", bytesOf(t, append(times(32, 2), ops(4, 5)...)), []byte{11}, api.ErrShort},
		{"too deep and the 4097th", bytesOf(t, append(times(4063, 1), times(33, 2)...)), []byte{1}, api.ErrLimit},
		{"an else of none, as deep as may be and the 4097th", bytesOf(t, append(times(4063, 1), times(33, 2)...)), []byte{5}, api.ErrForm},
		{"no code, too deep and the 4097th", bytesOf(t, append(times(4063, 1), times(33, 2)...)), []byte{7}, api.ErrForm},
		{"labels, too deep and the 4097th", bytesOf(t, append(times(4063, 1), times(33, 2)...)), []byte{14, 65}, api.ErrLimit},
	} {
		readAs(t, x.name, x.want, x.front, x.back)
	}
}

// faults are bytes of which instr.Read tells each of its errors.
func faults() [][]byte {
	return [][]byte{
		nil, {2}, {4}, {12}, {12, 128}, {14}, {14, 2, 0}, {17, 0}, {40, 0}, {63}, {65, 255}, {66, 128, 128},
		{6}, {10}, {255}, {2, 63}, {3, 0}, {4, 128}, {12, 255, 255, 255, 255, 16}, {17, 0, 1}, {40, 0, 128, 128, 128, 128, 128}, {64, 128}, {65, 255, 255, 255, 255, 8}, {6, 5, 11},
		{14, 65}, {14, 255, 1, 5}, {14, 65, 5, 11},
	}
}

// P6.2: each error of instr, behind what is right, and ahead of and behind what is wrong here.
func TestErrorsOfInstr(t *testing.T) {
	right := [][]api.Instr{nil, times(1, 1), ops(2), ops(4, 5), ops(4, 5, 11), inside(3, 3, ops(1)), times(33, 4), times(4096, 1)}
	wrong := []struct {
		l []api.Instr
		e api.Errno
	}{
		{ops(5), api.ErrForm}, {ops(2, 5), api.ErrForm}, {ops(4, 5, 5), api.ErrForm}, {ops(3, 11, 5), api.ErrForm},
		{times(34, 3), api.ErrLimit}, {append(times(33, 2), ops(1)...), api.ErrLimit}, {times(4097, 1), api.ErrLimit},
	}
	for _, f := range faults() {
		i, _, want := instr.Read(f, 0)
		if want == api.OK {
			t.Fatalf("%v is %v", f, i)
		}
		for _, l := range right {
			readAs(t, "behind what is right", want, bytesOf(t, l), f)
		}
		for _, w := range wrong {
			readAs(t, "behind what is wrong", w.e, bytesOf(t, w.l), f)
			if len(f) > 0 && want != api.ErrShort {
				readAs(t, "ahead of what is wrong", want, f, bytesOf(t, w.l))
			}
		}
		if l, n, e := Read(slices.Concat([]byte{1, 11}, f), 0); len(l) != 1 || n != 2 || e != api.OK {
			t.Errorf("Read of 1, 11 and %v = %v, %d, %d", f, l, n, e)
		}
	}
}

// P6.2: places at which nothing can stand, whatever is there otherwise.
func TestWrongPlaces(t *testing.T) {
	for _, b := range [][]byte{nil, {}, {11}, {1, 11}, {5}, {6, 6}, {4, 64, 5, 11, 11}, bytes.Repeat([]byte{1}, 5000)} {
		n := len(b)
		for at, want := range map[int]api.Errno{
			n: api.ErrShort, n + 1: api.ErrArg, n + 2: api.ErrArg, -1: api.ErrArg, -2: api.ErrArg, -n - 1: api.ErrArg, 1 << 32: api.ErrArg, -1 << 32: api.ErrArg,
			math.MaxInt: api.ErrArg, math.MaxInt - 1: api.ErrArg, math.MinInt: api.ErrArg, math.MinInt + 1: api.ErrArg,
		} {
			if l, m, e := Read(b, at); len(l) != 0 || m != 0 || e != want {
				t.Errorf("Read(%d bytes, %d) = %v, %d, %d; want %d", n, at, l, m, e, want)
			}
		}
	}
}

// P6.2: bodies one behind the other are read from each one's beginning, as is what stands in them.
func TestPlacesWithin(t *testing.T) {
	b := []byte{1, 11, 4, 64, 5, 3, 126, 11, 11, 12, 1, 11, 11, 14, 1, 0, 5, 11}
	for at := range len(b) + 1 {
		compare(t, b, at)
	}
	for _, x := range [][3]int{{0, 2, 1}, {1, 2, 0}, {2, 12, 6}, {5, 9, 2}, {13, 18, 1}} {
		if l, n, e := Read(b, x[0]); n != x[1] || len(l) != x[2] || e != api.OK {
			t.Errorf("Read(%v, %d) = %v, %d, %d", b, x[0], l, n, e)
		}
	}
}

// P6.2: numbers that are longer than they need are read, and laid shorter.
func TestLongNumbers(t *testing.T) {
	long := []byte{3, 64, 12, 128, 0, 65, 255, 127, 14, 129, 0, 128, 128, 0, 128, 0, 11, 11}
	short := []byte{3, 64, 12, 0, 65, 127, 14, 1, 0, 0, 11, 11}
	l, n, e := Read(long, 0)
	if b, f := Put(nil, l); n != len(long) || e != api.OK || !bytes.Equal(b, short) || f != api.OK {
		t.Errorf("Read = %v, %d, %d; Put = %v, %d", l, n, e, b, f)
	}
}

// P6.1, P6.3, P6.4: instructions of which one may not be, though all are nested: they have all but Sane and Put.
func TestOneThatMayNotBe(t *testing.T) {
	for _, i := range []api.Instr{
		{Op: 6}, {Op: 255}, {Op: -1}, {Op: math.MinInt}, {Op: math.MaxInt}, {Op: 1, A: 1}, {Op: 1, B: 1}, {Op: 1, K: 1}, {Op: 1, Labels: []int{0}},
		{Op: 12, A: -1}, {Op: 12, A: greatest + 1}, {Op: 14, Labels: make([]int, 65)}, {Op: 14, Labels: []int{-1}}, {Op: 65, K: 1 << 32},
	} {
		l := slices.Concat(ops(4), []api.Instr{i}, ops(5, 1, 11))
		held(t, l)
		held(t, []api.Instr{i})
		refused(t, l)
		if m, ok := Matches(l); !ok || Sane(l) || m[0] != (Match{2, 4}) {
			t.Errorf("%v: Matches %v, %v, Sane %v", i, m, ok, Sane(l))
		}
	}
	for k, i := range []api.Instr{{Op: 4, A: 64}, {Op: 1, B: 2}, {Op: 5, A: 1}, {Op: 1, K: 7}, {Op: 11, Labels: []int{1}}} {
		l := ops(4, 1, 5, 1, 11)
		held(t, l)
		l[k] = i
		held(t, l)
		refused(t, l)
	}
}

// P6.4: from each kind of instruction, in a block, a loop, an if and behind an else, each label that may be and those beside.
func TestTargetOfEachKind(t *testing.T) {
	for _, i := range ofEachKind() {
		held(t, slices.Concat([]api.Instr{i}, ops(3, 2, 4), []api.Instr{i}, ops(5), []api.Instr{i}, ops(11), []api.Instr{i}, ops(11), []api.Instr{i}, ops(11), []api.Instr{i}))
	}
	l := ops(1, 2, 1, 3, 1, 4, 1, 5, 1, 11, 11, 11)
	for at, want := range [][]int{{12}, {12}, {11, 12}, {11, 12}, {3, 11, 12}, {3, 11, 12}, {9, 3, 11, 12}, {3, 11, 12}, {9, 3, 11, 12}, {3, 11, 12}, {11, 12}, {12}} {
		for label, place := range want {
			if to, ok := Target(l, at, label); to != place || !ok {
				t.Errorf("Target(%v, %d, %d) = %d, %v; want %d", l, at, label, to, ok, place)
			}
		}
		for _, label := range []int{-1, len(want), len(want) + 1, -len(want), math.MinInt, math.MaxInt} {
			if to, ok := Target(l, at, label); to != 0 || ok {
				t.Errorf("Target(%v, %d, %d) = %d, %v", l, at, label, to, ok)
			}
		}
	}
}

// P6.3, P6.4: what is far longer and deeper than may be is told all the same, but is not Sane.
func TestFarBeyond(t *testing.T) {
	long := times(1<<18, 1)
	if d := Depths(long); len(d) != len(long) || slices.Max(d) != 0 {
		t.Errorf("Depths of %d nops = %d", len(long), len(d))
	}
	if to, ok := Target(long, len(long)-1, 0); to != len(long) || !ok {
		t.Errorf("Target = %d, %v", to, ok)
	}
	limited(t, "long", long, false)
	const n = 1 << 15
	for _, op := range []int{2, 3, 4} {
		deep := inside(n, op, ops(1))
		limited(t, "deep", deep, false)
		m, _ := Matches(deep)
		d := Depths(deep)
		for k := range n {
			if m[k] != (Match{-1, 2*n - k}) || m[2*n-k] != (Match{-1, -1}) || d[k] != k || d[2*n-k] != k {
				t.Fatalf("at %d of %d: %v, %v, %d, %d", k, n, m[k], m[2*n-k], d[k], d[2*n-k])
			}
		}
		for label, k := range map[int]int{0: n - 1, 1: n - 2, 31: n - 32, 32: n - 33, 33: n - 34, n - 1: 0} {
			want := 2*n - k
			if op == 3 {
				want = k
			}
			if to, ok := Target(deep, n, label); to != want || !ok {
				t.Errorf("Target(%d deep, %d, %d) = %d, %v; want %d", n, n, label, to, ok, want)
			}
		}
		if to, ok := Target(deep, n, n); to != len(deep) || !ok {
			t.Errorf("Target(%d deep, %d, %d) = %d, %v", n, n, n, to, ok)
		}
		if to, ok := Target(deep, n, n+1); to != 0 || ok {
			t.Errorf("Target(%d deep, %d, %d) = %d, %v", n, n, n+1, to, ok)
		}
	}
	isNothing(t, times(1<<16, 2))
	isNothing(t, times(1<<16, 11))
	isNothing(t, append(long, ops(5)...))
	isNothing(t, append(inside(n, 4, ops(1)), ops(11)...))
}

// Same: instructions that differ in one alone, in one part of it, in where it stands, and in how many they are.
func TestSame(t *testing.T) {
	one := api.Instr{Op: 14, A: 1, B: 2, K: 3, Labels: []int{4, 5}}
	lists := [][]api.Instr{nil, {one}, {one, one}, {one, one, one}, {{}, one}, {one, {}}, {{}, {}}}
	for _, other := range []api.Instr{
		{Op: 13, A: 1, B: 2, K: 3, Labels: []int{4, 5}},
		{Op: 14, A: 0, B: 2, K: 3, Labels: []int{4, 5}},
		{Op: 14, A: 1, B: 3, K: 3, Labels: []int{4, 5}},
		{Op: 14, A: 1, B: 2, K: 1 << 63, Labels: []int{4, 5}},
		{Op: 14, A: 1, B: 2, K: 3, Labels: []int{4, 6}},
		{Op: 14, A: 1, B: 2, K: 3, Labels: []int{5, 4}},
		{Op: 14, A: 1, B: 2, K: 3, Labels: []int{4}},
		{Op: 14, A: 1, B: 2, K: 3, Labels: []int{4, 5, 0}},
		{Op: 14, A: 1, B: 2, K: 3},
		{Op: 14, A: math.MinInt, B: 2, K: 3, Labels: []int{4, 5}},
	} {
		lists = append(lists, []api.Instr{other, one, one}, []api.Instr{one, other, one}, []api.Instr{one, one, other})
	}
	for j, a := range lists {
		for k, b := range lists {
			if Same(a, copied(b)) != (j == k) {
				t.Errorf("Same(%v, %v) = %v", a, b, j != k)
			}
		}
	}
}

// Same: nil and empty are the same, of instructions as of Labels.
func TestSameOfNothing(t *testing.T) {
	empty := [][]api.Instr{nil, {}, make([]api.Instr, 0, 4)}
	for _, a := range empty {
		for _, b := range empty {
			if !Same(a, b) || Same(a, ops(1)) || Same(ops(0), b) {
				t.Errorf("Same(%v, %v) = %v", a, b, Same(a, b))
			}
		}
	}
	if !Same([]api.Instr{{Op: 14}}, []api.Instr{{Op: 14, Labels: []int{}}}) {
		t.Error("no Labels are not the same as no Labels")
	}
}

// withRoom is a list with more behind it in the same memory.
func withRoom[T any](l, behind []T) []T { return slices.Concat(l, behind)[:len(l)] }

// R3: what is handed in stays as it was, and so does the room behind it.
func TestRoomBehind(t *testing.T) {
	behind := slices.Repeat([]byte{77}, 40)
	more := times(40, 77)
	for _, l := range [][]api.Instr{nil, ops(1), ops(2), ops(4, 5, 11), ops(5), times(4096, 1), {{Op: 14, Labels: withRoom([]int{1, 2}, []int{3, 4})}}} {
		kept := copied(l)
		l = withRoom(l, more)
		for _, front := range [][]byte{nil, {1}, {11, 11, 11}} {
			b := withRoom(front, behind)
			Put(b, l)
			Read(b, 0)
			if !bytes.Equal(b, front) || !bytes.Equal(b[len(b):cap(b)][:40], behind) {
				t.Errorf("%v is changed to %v, the room behind to %v", front, b, b[len(b):cap(b)])
			}
		}
		Matches(l)
		Depths(l)
		Target(l, 0, 0)
		Same(l, l)
		Sane(l)
		if !equal(l, kept) || !equal(l[len(l):cap(l)][:40], more) {
			t.Errorf("%v is changed to %v, the room behind to %v", kept, l, l[len(l):cap(l)])
		}
		for _, i := range l {
			if len(i.Labels) == 2 && !slices.Equal(i.Labels[:4], []int{1, 2, 3, 4}) {
				t.Errorf("labels are changed to %v", i.Labels[:4])
			}
		}
	}
}

// R3: what is answered is new: it doesn't change with what was handed in, with a later call, or with another answer.
func TestAnswersAreNew(t *testing.T) {
	l := []api.Instr{{Op: 4, A: 127}, {Op: 14, A: 1, Labels: []int{0, 1}}, {Op: 5}, {Op: 14, A: 1, Labels: []int{0, 1}}, {Op: 11}}
	front := withRoom([]byte{9}, make([]byte, 100))
	first, _ := Put(front, l)
	second, _ := Put(front, ops(1))
	want := []byte{9, 4, 127, 14, 2, 0, 1, 1, 5, 14, 2, 0, 1, 1, 11, 11}
	if !bytes.Equal(first, want) || !bytes.Equal(second, []byte{9, 1, 11}) {
		t.Fatalf("Put = %v and %v", first, second)
	}
	got, _, _ := Read(first, 1)
	again, _, _ := Read(first, 1)
	m, _ := Matches(l)
	d := Depths(l)
	clear(again[1].Labels)
	_ = append(again[1].Labels, 8, 8)
	clear(again)
	clear(first)
	if !bytes.Equal(second, []byte{9, 1, 11}) || front[0] != 9 || !equal(got, l) {
		t.Errorf("Put then is %v behind %v, Read %v", second, front, got)
	}
	Depths(times(9, 2))
	Matches(ops(2, 11, 2, 11, 2, 11))
	Target(ops(2, 2, 2, 2, 11, 11, 11, 11), 3, 1)
	clear(l)
	if !slices.Equal(m, []Match{{2, 4}, {-1, -1}, {-1, 4}, {-1, -1}, {-1, -1}}) || !slices.Equal(d, []int{0, 1, 0, 1, 0}) {
		t.Errorf("Matches then are %v, Depths %v", m, d)
	}
	d[0], m[0].End = 7, 7
	if d := Depths(got); d[0] != 0 || !slices.Equal(d, []int{0, 1, 0, 1, 0}) {
		t.Errorf("Depths then are %v", d)
	}
	if b, e := Put(nil, got); !bytes.Equal(b, want[1:]) || e != api.OK {
		t.Errorf("Put then is %v, %d", b, e)
	}
}

// P1: long lots of bytes of every kind, made by a short rule, from every place of them.
func TestManyBytes(t *testing.T) {
	means := []byte{1, 2, 64, 3, 64, 4, 64, 4, 127, 5, 11, 11, 12, 0, 14, 1, 0, 0, 65, 127, 63, 0, 6}
	state := uint32(1)
	for range 400 {
		b := make([]byte, 60)
		for k := range b {
			state = state*1664525 + 1013904223
			b[k] = means[int(state>>16)%len(means)]
		}
		for at := range b {
			compare(t, b, at)
			if l, _, e := Read(b, at); e == api.OK {
				held(t, l)
			}
		}
	}
}

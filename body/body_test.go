package body

import (
	"bytes"
	"math"
	"slices"
	"strings"
	"testing"

	"avocet/api"
	"avocet/instr"
)

const greatest = math.MaxUint32

// ops are instructions of codes alone, which may be, but those of another kind than Plain and Block that need more.
func ops(codes ...int) []api.Instr {
	var l []api.Instr
	for _, op := range codes {
		l = append(l, api.Instr{Op: op})
	}
	return l
}

// times are n instructions of a code.
func times(n, op int) []api.Instr { return slices.Repeat(ops(op), n) }

// inside puts instructions into n blocks, loops or ifs, one in another.
func inside(n, op int, l []api.Instr) []api.Instr {
	return slices.Concat(times(n, op), l, times(n, 11))
}

func isOpener(op int) bool { return op >= 2 && op <= 4 }

// nestedByWords takes what has its own end away, from the inside out; nested are instructions of which nothing is left.
func nestedByWords(l []api.Instr) bool {
	var s strings.Builder
	for _, i := range l {
		switch i.Op {
		case 2, 3:
			s.WriteByte('b')
		case 4:
			s.WriteByte('i')
		case 5:
			s.WriteByte('e')
		case 11:
			s.WriteByte('.')
		}
	}
	away := strings.NewReplacer("b.", "", "i.", "", "ie.", "")
	t := s.String()
	for next := away.Replace(t); next != t; next = away.Replace(t) {
		t = next
	}
	return t == ""
}

// endByWords is the place of the end of what begins at p: behind it are more ends than beginnings for the first time. -1: it has none.
func endByWords(l []api.Instr, p int) int {
	more := 0
	for k := p + 1; k < len(l); k++ {
		if isOpener(l[k].Op) {
			more++
		}
		if l[k].Op == 11 {
			if more == 0 {
				return k
			}
			more--
		}
	}
	return -1
}

// aroundByWords are the places of what the one at k of nested instructions stands in, the innermost one first.
func aroundByWords(l []api.Instr, k int) []int {
	var found []int
	for p := k - 1; p >= 0; p-- {
		if isOpener(l[p].Op) && endByWords(l, p) > k {
			found = append(found, p)
		}
	}
	if l[k].Op == 5 {
		return found[1:]
	}
	return found
}

// matchesByWords is Matches of nested instructions, word by word of P6.3.
func matchesByWords(l []api.Instr) []Match {
	m := make([]Match, len(l))
	for k := range l {
		m[k] = Match{-1, -1}
		if isOpener(l[k].Op) {
			m[k].End = endByWords(l, k)
		}
	}
	for k := range l {
		if l[k].Op == 5 {
			own := k - 1
			for !isOpener(l[own].Op) || m[own].End < k {
				own--
			}
			m[own].Else, m[k].End = k, m[own].End
		}
	}
	return m
}

// targetByWords is Target of nested instructions, word by word of P6.4.
func targetByWords(l []api.Instr, at, label int) (int, bool) {
	if at < 0 || at >= len(l) || label < 0 {
		return 0, false
	}
	around := aroundByWords(l, at)
	switch {
	case label > len(around):
		return 0, false
	case label == len(around):
		return len(l), true
	case l[around[label]].Op == 3:
		return around[label], true
	}
	return endByWords(l, around[label]), true
}

// saneByWords is Sane, word by word of P6.1.
func saneByWords(l []api.Instr) bool {
	if !nestedByWords(l) || len(l) > 4096 {
		return false
	}
	for k, i := range l {
		if !instr.Sane(i) || len(aroundByWords(l, k)) > 32 {
			return false
		}
	}
	return true
}

// openByWords are the places of what has no end yet, the innermost one first.
func openByWords(l []api.Instr) []int {
	var found []int
	for p := len(l) - 1; p >= 0; p-- {
		if isOpener(l[p].Op) && endByWords(l, p) < 0 {
			found = append(found, p)
		}
	}
	return found
}

// elseMayBe tells whether one can follow: the innermost one that is open is an if, and none behind it is its else.
func elseMayBe(l []api.Instr) bool {
	open := openByWords(l)
	if len(open) == 0 || l[open[0]].Op != 4 {
		return false
	}
	more := 0
	for _, i := range l[open[0]+1:] {
		switch {
		case isOpener(i.Op):
			more++
		case i.Op == 11:
			more--
		case i.Op == 5 && more == 0:
			return false
		}
	}
	return true
}

// readByWords is Read, word by word of P6.2.
func readByWords(b []byte, at int) ([]api.Instr, int, api.Errno) {
	var l []api.Instr
	for {
		i, behind, e := instr.Read(b, at)
		if e != api.OK {
			return nil, 0, e
		}
		deep := len(openByWords(l))
		if i.Op == 11 && deep == 0 {
			return l, behind, api.OK
		}
		if i.Op == 5 && !elseMayBe(l) {
			return nil, 0, api.ErrForm
		}
		if i.Op == 5 || i.Op == 11 {
			deep--
		}
		if len(l)+1 > 4096 || deep > 32 {
			return nil, 0, api.ErrLimit
		}
		l, at = append(l, i), behind
	}
}

// layByWords is the bytes of instructions one by one, and an end.
func layByWords(t *testing.T, l []api.Instr) []byte {
	t.Helper()
	var b []byte
	for _, i := range l {
		one, e := instr.Put(nil, i)
		if e != api.OK {
			t.Fatalf("instr.Put(%v) = %d", i, e)
		}
		b = append(b, one...)
	}
	return append(b, 11)
}

// equal holds two lists against each other part by part, so that it shares nothing with Same.
func equal(a, b []api.Instr) bool {
	if len(a) != len(b) {
		return false
	}
	for k, i := range a {
		j := b[k]
		if i.Op != j.Op || i.A != j.A || i.B != j.B || i.K != j.K || len(i.Labels) != len(j.Labels) {
			return false
		}
		for n, v := range i.Labels {
			if j.Labels[n] != v {
				return false
			}
		}
	}
	return true
}

// copied are instructions that share nothing with those.
func copied(l []api.Instr) []api.Instr {
	c := slices.Clone(l)
	for k := range c {
		c[k].Labels = slices.Clone(c[k].Labels)
	}
	return c
}

// labelsAround are labels below, at, and above all that can be gone out of.
func labelsAround(n int) []int {
	l := []int{math.MinInt, math.MinInt + 1, -n - 1, -2, -1, math.MaxInt - 1, math.MaxInt, 1 << 32, -1 << 32}
	for k := range n + 3 {
		l = append(l, k)
	}
	return l
}

// placesAround are places below, at, and behind all that can be asked of.
func placesAround(n int) []int {
	l := labelsAround(n)
	return append(l, -n, -n+1)
}

// held holds Matches, Depths, Target and Sane of instructions against the words, and that they stay as they were.
func held(t *testing.T, l []api.Instr) {
	t.Helper()
	kept := copied(l)
	nested := nestedByWords(l)
	m, ok := Matches(l)
	d := Depths(l)
	if !nested {
		isNothing(t, l)
	} else {
		if ok != nested || !slices.Equal(m, matchesByWords(l)) {
			t.Errorf("Matches(%v) = %v, %v; want %v", l, m, ok, matchesByWords(l))
		}
		if len(d) != len(l) {
			t.Fatalf("Depths(%v) = %v", l, d)
		}
		for k := range l {
			if want := len(aroundByWords(l, k)); d[k] != want {
				t.Errorf("Depths(%v) = %v; at %d is %d", l, d, k, want)
			}
		}
		for _, at := range placesAround(len(l)) {
			for _, label := range labelsAround(len(l)) {
				to, ok := Target(l, at, label)
				if want, may := targetByWords(l, at, label); to != want || ok != may {
					t.Errorf("Target(%v, %d, %d) = %d, %v; want %d, %v", l, at, label, to, ok, want, may)
				}
			}
		}
	}
	if Sane(l) != saneByWords(l) {
		t.Errorf("Sane(%v) = %v", l, Sane(l))
	}
	if !equal(l, kept) {
		t.Errorf("%v is changed to %v", kept, l)
	}
}

// isNothing: instructions that aren't nested have no Matches, no Depths and no Target, and are not Sane.
func isNothing(t *testing.T, l []api.Instr) {
	t.Helper()
	if m, ok := Matches(l); ok || len(m) != 0 {
		t.Errorf("Matches(%v) = %v, %v", l, m, ok)
	}
	if d := Depths(l); len(d) != 0 {
		t.Errorf("Depths(%v) = %v", l, d)
	}
	for _, at := range []int{-1, 0, 1, len(l) / 2, len(l) - 1, len(l), len(l) + 1, math.MinInt, math.MaxInt} {
		for _, label := range []int{-1, 0, 1, 2, math.MinInt, math.MaxInt} {
			if to, ok := Target(l, at, label); ok || to != 0 {
				t.Errorf("Target(%v, %d, %d) = %d, %v", l, at, label, to, ok)
			}
		}
	}
	if Sane(l) {
		t.Errorf("Sane(%v) = true", l)
	}
	refused(t, l)
}

// refused: what isn't Sane isn't laid, whatever it is laid behind.
func refused(t *testing.T, l []api.Instr) {
	t.Helper()
	for _, front := range [][]byte{nil, {}, {9, 8}} {
		if b, e := Put(front, l); len(b) != 0 || e != api.ErrArg {
			t.Errorf("Put(%v, %d instructions) = %v, %d; want ErrArg", front, len(l), b, e)
		}
	}
}

// compare holds Read against readByWords; the bytes stay as they were, and what is read is Sane, and laid in no more bytes.
func compare(t *testing.T, b []byte, at int) {
	t.Helper()
	kept := bytes.Clone(b)
	l, n, e := Read(b, at)
	k, m, f := readByWords(b, at)
	if !equal(l, k) || n != m || e != f {
		t.Errorf("Read(%v, %d) = %v, %d, %d; want %v, %d, %d", b, at, l, n, e, k, m, f)
	}
	if !bytes.Equal(b, kept) {
		t.Errorf("reading changed %v to %v", kept, b)
	}
	if e != api.OK {
		return
	}
	if laid, e := Put(nil, l); !Sane(l) || e != api.OK || len(laid) > n-at {
		t.Errorf("read from %v at %d, but Sane(%v) = %v, Put %v, %d", b, at, l, Sane(l), laid, e)
	}
}

// thereAndBack holds Put against layByWords and Read against what was laid: between other bytes and at the end, and cut short at each place.
func thereAndBack(t *testing.T, l []api.Instr) {
	t.Helper()
	laid := layByWords(t, l)
	for _, front := range [][]byte{nil, {}, {11}, {2, 64, 255}} {
		want := slices.Concat(front, laid)
		b, e := Put(front, l)
		if !bytes.Equal(b, want) || e != api.OK {
			t.Errorf("Put(%v, %v) = %v, %d; want %v", front, l, b, e, want)
		}
		for _, back := range [][]byte{nil, {11}, {7, 255}, {5, 11}} {
			got, n, e := Read(slices.Concat(want, back), len(front))
			if !equal(got, l) || n != len(want) || e != api.OK {
				t.Errorf("Read(%v and %v, %d) = %v, %d, %d; want %v", want, back, len(front), got, n, e, l)
			}
		}
	}
	for end := range laid {
		if got, n, e := Read(laid[:end], 0); len(got) != 0 || n != 0 || e != api.ErrShort {
			t.Errorf("Read(%v, 0) = %v, %d, %d; want ErrShort", laid[:end], got, n, e)
		}
	}
}

// ofEachKind are instructions of each kind and each bound of what stands behind a code, that begin and end nothing.
func ofEachKind() []api.Instr {
	return []api.Instr{
		{Op: 0}, {Op: 1}, {Op: 15}, {Op: 26}, {Op: 27}, {Op: 69}, {Op: 90}, {Op: 103}, {Op: 138}, {Op: 167}, {Op: 173},
		{Op: 12}, {Op: 13, A: 127}, {Op: 16, A: 128}, {Op: 32, A: greatest}, {Op: 36, A: 300},
		{Op: 14}, {Op: 14, A: 2, Labels: []int{1, 0}}, {Op: 14, A: greatest, Labels: slices.Repeat([]int{greatest}, 64)},
		{Op: 17}, {Op: 17, A: greatest}, {Op: 40, A: 2, B: 300}, {Op: 62, A: greatest, B: greatest}, {Op: 63}, {Op: 64},
		{Op: 65, K: greatest}, {Op: 65, K: 1 << 31}, {Op: 65, K: 64}, {Op: 66, K: math.MaxUint64}, {Op: 66, K: 1 << 63}, {Op: 66, K: 64},
	}
}

// openers are all instructions that begin a block, a loop or an if.
func openers() []api.Instr {
	var l []api.Instr
	for _, op := range []int{2, 3, 4} {
		for _, a := range []int{0, 126, 127} {
			l = append(l, api.Instr{Op: op, A: a})
		}
	}
	return l
}

// everyList calls f with all lists of these codes, of up to n.
func everyList(codes []int, n int, f func([]api.Instr)) {
	var l []api.Instr
	var more func()
	more = func() {
		f(l)
		if len(l) == n {
			return
		}
		for _, op := range codes {
			l = append(l, api.Instr{Op: op})
			more()
			l = l[:len(l)-1]
		}
	}
	more()
}

// P6.1 to P6.5: no instructions.
func TestNothing(t *testing.T) {
	for _, l := range [][]api.Instr{nil, {}} {
		held(t, l)
		thereAndBack(t, l)
		if m, ok := Matches(l); !ok || len(m) != 0 || !Sane(l) {
			t.Errorf("Matches(%v) = %v, %v", l, m, ok)
		}
	}
	if b, e := Put(nil, nil); !bytes.Equal(b, []byte{11}) || e != api.OK {
		t.Errorf("Put of nothing = %v, %d", b, e)
	}
	if l, n, e := Read([]byte{11}, 0); len(l) != 0 || n != 1 || e != api.OK {
		t.Errorf("Read of an end = %v, %d, %d", l, n, e)
	}
}

// P6.1 to P6.5: one of each kind alone, and in a block, a loop, an if, and behind an else.
func TestOneOfEachKind(t *testing.T) {
	for _, i := range ofEachKind() {
		one := []api.Instr{i}
		lists := [][]api.Instr{one, slices.Concat(ops(4, 5), one, ops(11)), slices.Concat(ops(4), one, ops(5), one, ops(11), one)}
		for _, o := range openers() {
			lists = append(lists, slices.Concat([]api.Instr{o}, one, ops(11)))
		}
		for _, l := range lists {
			held(t, l)
			thereAndBack(t, l)
		}
	}
	for _, o := range openers() {
		held(t, []api.Instr{o})
		thereAndBack(t, []api.Instr{o, {Op: 11}})
	}
}

// P6.1, P6.3: every number as a code: what is no block, loop, if, else or end begins and ends nothing, also if it is no code.
func TestEveryCode(t *testing.T) {
	codes := []int{math.MinInt, math.MaxInt, math.MinInt + 2, math.MinInt + 11, 1<<32 + 4, 1<<32 + 5, 1<<62 + 11, 256 + 2, 256 + 5, 256 + 11, -2, -5, -11, 2 - 256, 11 - 256}
	for op := -20; op < 300; op++ {
		codes = append(codes, op)
	}
	for _, op := range codes {
		held(t, ops(op))
		held(t, ops(op, 11))
		held(t, ops(4, op, 11))
		if m, ok := Matches(ops(op)); ok != (op != 2 && op != 3 && op != 4 && op != 5 && op != 11) {
			t.Errorf("Matches of the code %d = %v, %v", op, m, ok)
		}
	}
}

// P6.1 to P6.5: all short lists of what begins, turns and ends, and of what does none of these; in bytes as well.
func TestEveryShortList(t *testing.T) {
	nested := 0
	check := func(l []api.Instr) {
		held(t, l)
		b := layByWords(t, l)
		compare(t, b, 0)
		compare(t, b[:len(b)-1], 0)
		compare(t, append(b, 11, 1), 0)
		if nestedByWords(l) {
			nested++
			thereAndBack(t, l)
		}
	}
	everyList([]int{1, 2, 3, 4, 5, 11}, 5, check)
	everyList([]int{4, 5, 11}, 8, check)
	everyList([]int{2, 4, 5, 11}, 6, check)
	if nested < 100 {
		t.Errorf("just %d of them were nested", nested)
	}
}

// P6.2: all short lots of bytes that mean something here, at each place, and at places that are none.
func TestEveryFewBytes(t *testing.T) {
	means := []byte{1, 2, 4, 64, 5, 6, 11}
	var b []byte
	var more func()
	more = func() {
		for at := -1; at <= len(b)+1; at++ {
			compare(t, b, at)
		}
		if len(b) == 5 {
			return
		}
		for _, c := range means {
			b = append(b, c)
			more()
			b = b[:len(b)-1]
		}
	}
	more()
}

// P6.1, P6.3: what is not nested, told one by one, in instructions and in bytes, with what Read says of it.
func TestNotNested(t *testing.T) {
	for _, x := range []struct {
		l []api.Instr
		e api.Errno
	}{
		{ops(11), api.OK}, // in bytes it ends all of it
		{ops(1, 11), api.OK},
		{ops(11, 2), api.OK},
		{ops(2, 11, 11), api.OK},
		{ops(4, 5, 11, 11), api.OK},
		{ops(2, 3, 11, 11, 11, 1), api.OK},
		{ops(5), api.ErrForm},
		{ops(5, 11), api.ErrForm},
		{ops(4, 11, 5), api.ErrForm}, // behind the end of its if
		{ops(4, 5, 5, 11), api.ErrForm},
		{ops(4, 1, 5, 1, 5, 1, 11), api.ErrForm},
		{ops(4, 5, 2, 11, 5, 11), api.ErrForm},    // a block between them
		{ops(4, 5, 4, 5, 11, 5, 11), api.ErrForm}, // and an if with an else of its own
		{ops(2, 5, 11), api.ErrForm},              // in a block
		{ops(3, 5, 11), api.ErrForm},              // in a loop
		{ops(4, 2, 5, 11, 11), api.ErrForm},       // in a block that stands in an if
		{ops(4, 3, 5, 11, 11), api.ErrForm},       // in a loop that stands in an if
		{ops(4, 5, 3, 5, 11, 11), api.ErrForm},    // behind its else
		{ops(4, 4, 5, 5, 11, 11), api.ErrForm},    // the second one is not the outer one's
		{ops(2, 4, 11, 5, 11), api.ErrForm},       // in a block, behind an if
		{ops(4, 4, 5, 11, 5, 5, 11), api.ErrForm}, // one more behind the outer one's
		{ops(2), api.ErrForm},                     // without an end of its own: the one that is laid
		{ops(3), api.ErrForm},                     // behind is its own, and all of it has none
		{ops(4), api.ErrForm},
		{ops(4, 5), api.ErrForm},
		{ops(2, 2, 11), api.ErrForm},
		{ops(4, 3, 2, 11, 11), api.ErrForm},
	} {
		held(t, x.l)
		isNothing(t, x.l)
		b := append(layByWords(t, x.l), 6) // 6 is no code
		if _, _, e := Read(b, 0); e != x.e {
			t.Errorf("Read(%v, 0) = %d, want %d", b, e, x.e)
		}
		compare(t, b, 0)
		compare(t, b[:len(b)-1], 0)
	}
}

// P6.1, P6.3: what is nested, told one by one.
func TestNested(t *testing.T) {
	for _, l := range [][]api.Instr{
		ops(4, 4, 5, 11, 5, 11),
		ops(4, 5, 4, 5, 11, 11),
		ops(4, 2, 11, 5, 3, 11, 11),
		ops(4, 5, 11, 4, 5, 11, 4, 11),
		ops(2, 4, 5, 11, 11, 3, 4, 11, 11),
		ops(4, 1, 5, 3, 1, 11, 11, 2, 11),
		inside(6, 4, ops(5)),
		slices.Concat(times(9, 4), slices.Repeat(ops(5, 11), 9)),
		inside(30, 3, ops(1, 4, 1, 5, 2, 11, 11)),
	} {
		held(t, l)
		thereAndBack(t, l)
		if !Sane(l) {
			t.Errorf("Sane(%v) = false", l)
		}
	}
	l := ops(3, 4, 1, 5, 2, 11, 1, 11, 11, 1)
	m, ok := Matches(l)
	if want := []Match{{-1, 8}, {3, 7}, {-1, -1}, {-1, 7}, {-1, 5}, {-1, -1}, {-1, -1}, {-1, -1}, {-1, -1}, {-1, -1}}; !ok || !slices.Equal(m, want) {
		t.Errorf("Matches(%v) = %v, %v", l, m, ok)
	}
	if d := Depths(l); !slices.Equal(d, []int{0, 1, 2, 1, 2, 2, 2, 1, 0, 0}) {
		t.Errorf("Depths(%v) = %v", l, d)
	}
}

// P6.5: ends are nested as what they end is: of two, one stands in the other, as do their ends, or behind its end.
func TestEndsAreNested(t *testing.T) {
	everyList([]int{2, 4, 5, 11}, 8, func(l []api.Instr) {
		m, ok := Matches(l)
		if !ok {
			return
		}
		for p := range l {
			for q := range p {
				if isOpener(l[p].Op) && isOpener(l[q].Op) && !(p < m[p].End && m[p].End < m[q].End) && m[q].End >= p {
					t.Errorf("%v: from %d to %d, and from %d to %d", l, q, m[q].End, p, m[p].End)
				}
			}
			if e := m[p].Else; e >= 0 && (e < p || e > m[p].End || m[e].End != m[p].End) {
				t.Errorf("%v: from %d to %d, the else at %d ends at %d", l, p, m[p].End, e, m[e].End)
			}
		}
	})
}

package instr

import (
	"bytes"
	"math"
	"math/big"
	"slices"
	"testing"

	"avocet/api"
)

const greatest = math.MaxUint32

// kindByWords is Kind, word by word of P5.1 and of the chapter's Words.
func kindByWords(op int) int {
	switch {
	case op >= 2 && op <= 4:
		return 2
	case op == 12, op == 13, op == 16, op >= 32 && op <= 36:
		return 3
	case op == 14:
		return 4
	case op == 17:
		return 5
	case op == 40, op == 41, op >= 44 && op <= 55, op >= 58 && op <= 62:
		return 6
	case op == 63, op == 64:
		return 7
	case op == 65:
		return 8
	case op == 66:
		return 9
	case op == 0, op == 1, op == 5, op == 11, op == 15, op == 26, op == 27:
		return 1
	case op >= 69 && op <= 90, op >= 103 && op <= 138, op == 167, op == 172, op == 173:
		return 1
	}
	return 0
}

// unsignedByWords is a number of 32 digits of two that stands in bytes, as layer 1 tells it, and the place behind.
func unsignedByWords(b []byte, at int) (int, int, api.Errno) {
	v := 0
	for k := range 5 {
		if at == len(b) {
			return 0, 0, api.ErrShort
		}
		c := b[at]
		at++
		if k == 4 && c > 15 {
			return 0, 0, api.ErrForm
		}
		v += int(c&127) << (7 * k)
		if c < 128 {
			return v, at, api.OK
		}
	}
	panic("a fifth byte below 16 ends a number")
}

// signedByWords is the lowest digits of a number that may be below 0, as layer 1 tells it, in numbers without an end, and the place behind.
func signedByWords(b []byte, at, digits int) (uint64, int, api.Errno) {
	v := new(big.Int)
	for k := 1; ; k++ {
		if at == len(b) {
			return 0, 0, api.ErrShort
		}
		c := b[at]
		at++
		v.Or(v, new(big.Int).Lsh(big.NewInt(int64(c&127)), uint(7*(k-1))))
		if k == (digits+6)/7 {
			for d := digits; d < 7*k; d++ {
				if v.Bit(d) != v.Bit(digits-1) {
					return 0, 0, api.ErrForm
				}
			}
			if c > 127 {
				return 0, 0, api.ErrForm
			}
		}
		if c < 128 {
			if c&64 != 0 {
				v.Sub(v, new(big.Int).Lsh(big.NewInt(1), uint(7*k)))
			}
			v.Mod(v, new(big.Int).Lsh(big.NewInt(1), uint(digits)))
			return v.Uint64(), at, api.OK
		}
	}
}

// readByWords is Read, word by word of P5.2 and P5.3.
func readByWords(b []byte, at int) (api.Instr, int, api.Errno) {
	var none api.Instr
	if at < 0 || at > len(b) {
		return none, 0, api.ErrArg
	}
	if at == len(b) {
		return none, 0, api.ErrShort
	}
	i := api.Instr{Op: int(b[at])}
	at++
	var e api.Errno
	switch kindByWords(i.Op) {
	case 0:
		return none, 0, api.ErrForm
	case 2:
		if at == len(b) {
			return none, 0, api.ErrShort
		}
		at++
		switch b[at-1] {
		case 64:
			return i, at, api.OK
		case 126, 127:
			i.A = int(b[at-1])
			return i, at, api.OK
		}
		return none, 0, api.ErrForm
	case 4:
		var n, v int
		if n, at, e = unsignedByWords(b, at); e != api.OK {
			return none, 0, e
		}
		if n > 64 {
			return none, 0, api.ErrLimit
		}
		for range n {
			if v, at, e = unsignedByWords(b, at); e != api.OK {
				return none, 0, e
			}
			i.Labels = append(i.Labels, v)
		}
		fallthrough
	case 3, 5, 6:
		if i.A, at, e = unsignedByWords(b, at); e != api.OK {
			return none, 0, e
		}
	case 8:
		i.K, at, e = signedByWords(b, at, 32)
	case 9:
		i.K, at, e = signedByWords(b, at, 64)
	}
	if kindByWords(i.Op) == 6 {
		i.B, at, e = unsignedByWords(b, at)
	}
	if e != api.OK {
		return none, 0, e
	}
	if k := kindByWords(i.Op); k == 5 || k == 7 {
		if at == len(b) {
			return none, 0, api.ErrShort
		}
		if b[at] != 0 {
			return none, 0, api.ErrForm
		}
		at++
	}
	return i, at, api.OK
}

// equal holds two instructions against each other part by part, so that it shares nothing with Same.
func equal(a, b api.Instr) bool {
	if a.Op != b.Op || a.A != b.A || a.B != b.B || a.K != b.K || len(a.Labels) != len(b.Labels) {
		return false
	}
	for k, v := range a.Labels {
		if b.Labels[k] != v {
			return false
		}
	}
	return true
}

// compare holds Read against readByWords; the bytes stay as they were, and what is read may be, and is laid in no more bytes.
func compare(t *testing.T, b []byte, at int) {
	t.Helper()
	kept := bytes.Clone(b)
	i, n, e := Read(b, at)
	j, m, f := readByWords(b, at)
	if !equal(i, j) || n != m || e != f {
		t.Errorf("Read(%v, %d) = %v, %d, %d; want %v, %d, %d", b, at, i, n, e, j, m, f)
	}
	if !bytes.Equal(b, kept) {
		t.Errorf("reading changed %v to %v", kept, b)
	}
	if e != api.OK {
		return
	}
	if l, e := Put(nil, i); !Sane(i) || e != api.OK || len(l) > n-at {
		t.Errorf("read from %v at %d, but Sane(%v) = %v, Put %v, %d", b, at, i, Sane(i), l, e)
	}
}

// layUnsigned lays a number of 0 or more as layer 1 tells it, in so many bytes at least.
func layUnsigned(v uint64, least int) []byte {
	var b []byte
	for ; v > 127 || len(b)+1 < least; v >>= 7 {
		b = append(b, byte(v&127)+128)
	}
	return append(b, byte(v))
}

// laySigned lays a number that may be below 0 as layer 1 tells it, in so many bytes at least.
func laySigned(v int64, least int) []byte {
	var b []byte
	for ; v < -64 || v > 63 || len(b)+1 < least; v >>= 7 {
		b = append(b, byte(v&127)+128)
	}
	return append(b, byte(v&127))
}

// layByWords is the bytes of an instruction that may be, word by word of P5.2, its numbers in so many bytes at least.
func layByWords(i api.Instr, least int) []byte {
	b := []byte{byte(i.Op)}
	a, second := layUnsigned(uint64(i.A), least), layUnsigned(uint64(i.B), least)
	switch kindByWords(i.Op) {
	case 2:
		if i.A == 0 {
			return append(b, 64)
		}
		return append(b, byte(i.A))
	case 3:
		return append(b, a...)
	case 4:
		b = append(b, layUnsigned(uint64(len(i.Labels)), least)...)
		for _, v := range i.Labels {
			b = append(b, layUnsigned(uint64(v), least)...)
		}
		return append(b, a...)
	case 5:
		return append(append(b, a...), 0)
	case 6:
		return append(append(b, a...), second...)
	case 7:
		return append(b, 0)
	case 8:
		return append(b, laySigned(int64(int32(uint32(i.K))), least)...)
	case 9:
		return append(b, laySigned(int64(i.K), least)...)
	}
	return b
}

// saneByWords is Sane, word by word of P5.3.
func saneByWords(i api.Instr) bool {
	may := func(v int) bool { return v >= 0 && v < 1<<32 }
	noLabels := len(i.Labels) == 0
	switch kindByWords(i.Op) {
	case 1, 7:
		return i.A == 0 && i.B == 0 && i.K == 0 && noLabels
	case 2:
		return (i.A == 0 || i.A == 126 || i.A == 127) && i.B == 0 && i.K == 0 && noLabels
	case 3, 5:
		return may(i.A) && i.B == 0 && i.K == 0 && noLabels
	case 4:
		for _, v := range i.Labels {
			if !may(v) {
				return false
			}
		}
		return len(i.Labels) <= 64 && may(i.A) && i.B == 0 && i.K == 0
	case 6:
		return may(i.A) && may(i.B) && i.K == 0 && noLabels
	case 8:
		return i.A == 0 && i.B == 0 && i.K < 1<<32 && noLabels
	case 9:
		return i.A == 0 && i.B == 0 && noLabels
	}
	return false
}

// there holds Sane against saneByWords, and Put, and what is laid against what is read, also cut short anywhere.
func there(t *testing.T, i api.Instr) {
	t.Helper()
	ok := saneByWords(i)
	if Sane(i) != ok {
		t.Errorf("Sane(%v) = %v", i, !ok)
	}
	front := []byte{7, 14}
	b, e := Put(front, i)
	if !ok {
		if len(b) != 0 || e != api.ErrArg {
			t.Errorf("Put(%v) = %v, %d; want ErrArg", i, b, e)
		}
		return
	}
	if want := append([]byte{7, 14}, layByWords(i, 1)...); !bytes.Equal(b, want) || e != api.OK {
		t.Errorf("Put(%v) = %v, %d; want %v", i, b, e, want)
		return
	}
	if j, n, e := Read(b, 2); !equal(i, j) || !Same(i, j) || n != len(b) || e != api.OK {
		t.Errorf("Read(%v, 2) = %v, %d, %d; want %v", b, j, n, e, i)
	}
	for end := 2; end < len(b); end++ {
		if j, n, e := Read(b[:end:end], 2); !equal(j, api.Instr{}) || n != 0 || e != api.ErrShort {
			t.Errorf("Read(%v, 2) = %v, %d, %d; want ErrShort", b[:end], j, n, e)
		}
	}
}

// allCodes are numbers around and far from those that codes are, and such as have a code's lowest digits.
func allCodes() []int {
	l := []int{math.MinInt, math.MinInt + 1, math.MaxInt, math.MaxInt - 1}
	for op := -600; op <= 600; op++ {
		l = append(l, op)
	}
	for op := range 256 {
		for _, far := range []int{1 << 15, 1 << 16, 1 << 31, 1 << 32, 1 << 62, math.MinInt} {
			l = append(l, far+op, -far+op)
		}
	}
	return l
}

// ofEachKind are codes of each kind: each one where it is rare, the first and the last one where it is not.
func ofEachKind() []int {
	return []int{0, 5, 11, 27, 69, 173, 2, 3, 4, 12, 16, 32, 36, 14, 17, 40, 62, 63, 64, 65, 66, 6, 255}
}

// numbers are numbers at and around each bound of what may stand behind a code.
func numbers() []int {
	return []int{
		0, 1, 2, 63, 64, 65, 125, 126, 127, 128, 129, 255, 256, 16383, 16384, 2097151, 2097152, 268435455, 268435456,
		1<<31 - 1, 1 << 31, 1<<31 + 1, greatest - 1, greatest, greatest + 1, greatest + 127, 1<<33 + 1, 1 << 62,
		-1, -2, -126, -127, -128, -1 << 31, -1 << 32, 127 - 1<<32, math.MinInt, math.MinInt + 126, math.MinInt + 1, math.MaxInt - 1, math.MaxInt,
	}
}

// constants are values at and around each bound of K, of both kinds.
func constants() []uint64 {
	l := []uint64{0, 1, 300, math.MaxUint64, math.MaxUint64 - 1, 1 << 63, 1<<63 - 1, 1<<63 + 1, 127 + 1<<32}
	for k := range 63 {
		p := uint64(1) << k
		l = append(l, p-1, p, p+1, -p-1, -p, -p+1)
	}
	for k := range 32 {
		p := uint32(1) << k
		l = append(l, uint64(-p-1), uint64(-p), uint64(-p+1))
	}
	return l
}

// P5.1: the kinds are these numbers, which other layers may have written down.
func TestKindsAreNumbered(t *testing.T) {
	for k, v := range []int{Bad, Plain, Block, Index, BrTable, CallInd, MemArg, MemOp, Const32, Const64} {
		if v != k {
			t.Errorf("the kind %d is %d", k, v)
		}
	}
}

// P5.1: each number as a code, and each code of every kind.
func TestKind(t *testing.T) {
	for _, op := range allCodes() {
		if k := Kind(op); k != kindByWords(op) {
			t.Errorf("Kind(%d) = %d, want %d", op, k, kindByWords(op))
		}
	}
	var count [10]int
	for op := range 256 {
		count[Kind(op)]++
	}
	if want := [10]int{256 - 104, 68, 3, 8, 1, 1, 19, 2, 1, 1}; count != want {
		t.Errorf("of the kinds are %v codes, want %v", count, want)
	}
}

// P5.4: each number as a code; those of a MemArg one by one.
func TestAccess(t *testing.T) {
	type access struct {
		val         byte
		n           int
		sign, store bool
	}
	told := map[int]access{
		40: {127, 4, false, false}, 41: {126, 8, false, false},
		44: {127, 1, true, false}, 45: {127, 1, false, false}, 46: {127, 2, true, false}, 47: {127, 2, false, false},
		48: {126, 1, true, false}, 49: {126, 1, false, false}, 50: {126, 2, true, false}, 51: {126, 2, false, false}, 52: {126, 4, true, false}, 53: {126, 4, false, false},
		54: {127, 4, false, true}, 55: {126, 8, false, true},
		58: {127, 1, false, true}, 59: {127, 2, false, true}, 60: {126, 1, false, true}, 61: {126, 2, false, true}, 62: {126, 4, false, true},
	}
	for _, op := range allCodes() {
		val, n, sign, store := Access(op)
		if got := (access{val, n, sign, store}); got != told[op] {
			t.Errorf("Access(%d) = %v, want %v", op, got, told[op])
		}
		if (Kind(op) == MemArg) != (n != 0) {
			t.Errorf("Access(%d) is of %d bytes, its kind %d", op, n, Kind(op))
		}
	}
}

// P5.3, P5.5: each number as a code, with all else 0.
func TestEveryCode(t *testing.T) {
	for _, op := range allCodes() {
		i := api.Instr{Op: op}
		there(t, i)
		if Sane(i) != (kindByWords(op) != 0) {
			t.Errorf("Sane(%v) = %v", i, Sane(i))
		}
	}
}

// P5.2, P5.3: every byte as a code, ahead of what is right, of what is wrong, and of nothing.
func TestEveryByteAsCode(t *testing.T) {
	rests := [][]byte{
		nil, {0}, {64}, {64, 0}, {126}, {127}, {127, 0}, {125}, {0, 0}, {0, 1}, {1, 0}, {1, 2, 3}, {2, 1, 0, 2}, {2, 1}, {65, 0}, {255}, {255, 255},
		{128, 0}, {128, 128, 0}, {128, 0, 128, 0, 0}, {255, 255, 255, 255, 15}, {255, 255, 255, 255, 15, 0}, {255, 255, 255, 255, 16, 0}, {128, 128, 128, 128, 120}, {128, 128, 128, 128, 8},
		bytes.Repeat([]byte{0}, 70), bytes.Repeat([]byte{64}, 70), bytes.Repeat([]byte{65}, 70), bytes.Repeat([]byte{255}, 70), bytes.Repeat([]byte{128}, 70),
	}
	for c := range 256 {
		for _, rest := range rests {
			b := append([]byte{9, byte(c)}, rest...)
			for at := -1; at <= len(b)+1; at++ {
				compare(t, b, at)
			}
			if i, n, e := Read(b, 1); kindByWords(c) == 0 && (!equal(i, api.Instr{}) || n != 0 || e != api.ErrForm) {
				t.Errorf("Read(%v, 1) = %v, %d, %d; %d is no code", b, i, n, e, c)
			}
		}
		if i, n, e := Read([]byte{byte(c)}, 1); !equal(i, api.Instr{}) || n != 0 || e != api.ErrShort {
			t.Errorf("Read behind %d = %v, %d, %d", c, i, n, e)
		}
	}
}

// P5.3: places at which nothing can stand, whatever is there otherwise.
func TestWrongPlaces(t *testing.T) {
	for _, b := range [][]byte{nil, {}, {0}, {14, 2, 1, 0, 2}, {2, 64}, {6}, {65, 127}, {255, 255}} {
		n := len(b)
		for at, want := range map[int]api.Errno{
			n: api.ErrShort, n + 1: api.ErrArg, n + 2: api.ErrArg, -1: api.ErrArg, -2: api.ErrArg, -n - 1: api.ErrArg, 1 << 32: api.ErrArg, -1 << 32: api.ErrArg,
			math.MaxInt: api.ErrArg, math.MaxInt - 1: api.ErrArg, math.MinInt: api.ErrArg, math.MinInt + 1: api.ErrArg,
		} {
			if i, m, e := Read(b, at); !equal(i, api.Instr{}) || m != 0 || e != want {
				t.Errorf("Read(%v, %d) = %v, %d, %d; want %d", b, at, i, m, e, want)
			}
		}
	}
}

// P5.2: each byte behind a Block's code, behind a CallInd's number and behind a MemOp's code, at the end and ahead of more.
func TestEveryByteBehindCode(t *testing.T) {
	for c := range 256 {
		for _, more := range [][]byte{nil, {0}, {127, 0}, {255}} {
			for _, op := range []byte{2, 3, 4} {
				told := map[int]api.Instr{64: {Op: int(op)}, 126: {Op: int(op), A: 126}, 127: {Op: int(op), A: 127}}
				i, ok := told[c]
				expect(t, append([]byte{op, byte(c)}, more...), 2, i, ok)
			}
			for _, number := range [][]byte{{0}, {5}, {133, 0}, {133, 128, 128, 128, 0}, {255, 255, 255, 255, 15}} {
				b := append([]byte{17}, number...)
				i := api.Instr{Op: 17, A: int(number[0] & 127)}
				if number[0] == 255 {
					i.A = greatest
				}
				expect(t, append(append(b, byte(c)), more...), len(b)+1, i, c == 0)
			}
			for _, op := range []byte{63, 64} {
				expect(t, append([]byte{op, byte(c)}, more...), 2, api.Instr{Op: int(op)}, c == 0)
			}
		}
	}
}

// expect holds that i is read from b, as far as behind, or that a byte of it may not be.
func expect(t *testing.T, b []byte, behind int, i api.Instr, ok bool) {
	t.Helper()
	want := api.OK
	if !ok {
		i, behind, want = api.Instr{}, 0, api.ErrForm
	}
	if j, n, e := Read(b, 0); !equal(i, j) || n != behind || e != want {
		t.Errorf("Read(%v, 0) = %v, %d, %d; want %v, %d, %d", b, j, n, e, i, behind, want)
	}
	compare(t, b, 0)
}

// labels are lists of Labels that may be, and such as may not.
func labels() [][]int {
	l := [][]int{nil, {}}
	for _, v := range numbers() {
		l = append(l, []int{v}, []int{0, v}, []int{v, 1, 2})
	}
	for _, n := range []int{2, 3, 62, 63, 64, 65, 66, 127, 128, 129, 256, 1 << 16} {
		l = append(l, make([]int, n), slices.Repeat([]int{greatest}, n), slices.Repeat([]int{-1}, n))
	}
	for k := range 64 {
		for _, v := range []int{-1, greatest, greatest + 1} {
			list := make([]int, 64)
			list[k] = v
			l = append(l, list)
		}
	}
	return l
}

// P5.3, P5.5: all numbers as A and B, of each kind, with and without what else an instruction may hold: laid as they should, and read; or not at all.
func TestNumbersThereAndBack(t *testing.T) {
	for _, op := range ofEachKind() {
		for _, a := range numbers() {
			for _, b := range numbers() {
				for _, k := range []uint64{0, 1, greatest, greatest + 1, math.MaxUint64} {
					for _, l := range [][]int{nil, {}, {0}, {a, b}, {b}} {
						there(t, api.Instr{Op: op, A: a, B: b, K: k, Labels: l})
					}
				}
			}
		}
	}
}

// P5.3, P5.5: all lists as Labels, of each kind.
func TestLabelsThereAndBack(t *testing.T) {
	for _, op := range ofEachKind() {
		for _, l := range labels() {
			for _, a := range []int{0, 127, 300, greatest, greatest + 1, -1} {
				there(t, api.Instr{Op: op, A: a, Labels: l})
			}
			there(t, api.Instr{Op: op, B: 1, Labels: l})
			there(t, api.Instr{Op: op, K: 1, Labels: l})
		}
	}
}

// P5.3, P5.5: all values as K, of each kind.
func TestConstantsThereAndBack(t *testing.T) {
	for _, op := range ofEachKind() {
		for _, k := range constants() {
			there(t, api.Instr{Op: op, K: k})
			there(t, api.Instr{Op: op, A: 1, K: k})
			there(t, api.Instr{Op: op, B: 1, K: k})
			there(t, api.Instr{Op: op, K: k, Labels: []int{0}})
		}
	}
}

// P5.3: of each code, one part that is not 0 where it should be.
func TestOnePartTooMuch(t *testing.T) {
	for op := range 256 {
		k := kindByWords(op)
		for _, v := range numbers() {
			if v == 0 {
				continue
			}
			if i := (api.Instr{Op: op, A: v}); (k < 2 || k > 6) && Sane(i) {
				t.Errorf("Sane(%v)", i)
			}
			if i := (api.Instr{Op: op, B: v}); k != 6 && Sane(i) {
				t.Errorf("Sane(%v)", i)
			}
			if i := (api.Instr{Op: op, K: uint64(v)}); k != 8 && k != 9 && Sane(i) {
				t.Errorf("Sane(%v)", i)
			}
			if i := (api.Instr{Op: op, Labels: []int{v}}); k != 4 && Sane(i) {
				t.Errorf("Sane(%v)", i)
			}
			there(t, api.Instr{Op: op, A: v})
			there(t, api.Instr{Op: op, B: v})
			there(t, api.Instr{Op: op, K: uint64(v)})
			there(t, api.Instr{Op: op, Labels: []int{v}})
		}
		if i := (api.Instr{Op: op, Labels: []int{0}}); Sane(i) != (k == 4) {
			t.Errorf("Sane(%v) = %v", i, k != 4)
		}
	}
}

// P5.2, P5.5: numbers in longer bytes than the shortest are read, as long as leb reads them, and laid in the shortest ones.
func TestLongerBytes(t *testing.T) {
	for _, v := range numbers() {
		for least := range 6 {
			for _, i := range []api.Instr{
				{Op: 12, A: v}, {Op: 36, A: v}, {Op: 17, A: v}, {Op: 40, A: v}, {Op: 62, B: v}, {Op: 44, A: v, B: v}, {Op: 40, A: v, B: 3}, {Op: 40, A: 300, B: v},
				{Op: 14, A: v}, {Op: 14, A: v, Labels: []int{v}}, {Op: 14, A: 1, Labels: []int{2, v, 300}}, {Op: 14, Labels: slices.Repeat([]int{v}, 64)},
			} {
				if saneByWords(i) {
					longer(t, i, least)
				}
			}
		}
	}
	for _, k := range constants() {
		for least := range 11 {
			longer(t, api.Instr{Op: 66, K: k}, least)
			if k <= greatest && least < 6 {
				longer(t, api.Instr{Op: 65, K: k}, least)
			}
		}
	}
}

// longer holds that i is read from bytes of at least so many a number, and from no less than all of them.
func longer(t *testing.T, i api.Instr, least int) {
	t.Helper()
	b := append([]byte{255}, layByWords(i, least)...)
	if j, n, e := Read(append(b[:len(b):len(b)], 1, 255), 1); !equal(i, j) || n != len(b) || e != api.OK {
		t.Errorf("Read(%v, 1) = %v, %d, %d; want %v", b, j, n, e, i)
	}
	for end := 1; end < len(b); end++ {
		if j, n, e := Read(b[:end:end], 1); !equal(j, api.Instr{}) || n != 0 || e != api.ErrShort {
			t.Errorf("Read(%v, 1) = %v, %d, %d; want ErrShort", b[:end], j, n, e)
		}
	}
	if l, e := Put(nil, i); !bytes.Equal(l, layByWords(i, 1)) || e != api.OK {
		t.Errorf("Put(%v) = %v, %d", i, l, e)
	}
}

// P5.2, P5.3: numbers that leb does not read, at each place where a number stands.
func TestBadNumbers(t *testing.T) {
	bad := [][]byte{
		{128, 128, 128, 128, 16}, {255, 255, 255, 255, 16}, {255, 255, 255, 255, 31}, {255, 255, 255, 255, 127}, {128, 128, 128, 128, 64}, // more than 32 digits
		{128, 128, 128, 128, 128}, {128, 128, 128, 128, 128, 0}, {255, 255, 255, 255, 255, 0}, {129, 128, 128, 128, 143, 0}, // more than five bytes
	}
	fronts := [][]byte{
		{12}, {13}, {16}, {32}, {33}, {34}, {35}, {36}, {14}, {14, 0}, {14, 1}, {14, 1, 5}, {14, 2, 5}, {14, 3, 0, 0}, {14, 128, 0}, {17}, {40}, {41, 2}, {44}, {62, 128, 0},
		append([]byte{14, 64}, make([]byte, 63)...), append([]byte{14, 64}, make([]byte, 64)...),
	}
	for _, front := range fronts {
		for _, number := range bad {
			for _, back := range [][]byte{nil, {0}, {0, 0, 0}, {255, 255}} {
				expect(t, slices.Concat(front, number, back), 0, api.Instr{}, false)
			}
		}
	}
	for _, number := range [][]byte{
		{128, 128, 128, 128, 8}, {255, 255, 255, 255, 15}, {255, 255, 255, 255, 119}, {128, 128, 128, 128, 112}, {128, 128, 128, 128, 64}, {128, 128, 128, 128, 16}, {128, 128, 128, 128, 128}, {255, 255, 255, 255, 255, 127},
	} {
		expect(t, append([]byte{65}, number...), 0, api.Instr{}, false)
		expect(t, append([]byte{65}, append(number, 0)...), 0, api.Instr{}, false)
	}
	for _, last := range []byte{1, 2, 63, 64, 65, 125, 126, 128, 129, 255} {
		for _, c := range []byte{128, 255} {
			expect(t, append(append([]byte{66}, bytes.Repeat([]byte{c}, 9)...), last), 0, api.Instr{}, false)
			expect(t, append(append([]byte{66}, bytes.Repeat([]byte{c}, 9)...), last, 0), 0, api.Instr{}, false)
		}
	}
}

// P5.2, P5.4: K is the value of the number that stands in bytes.
func TestConstantsInBytes(t *testing.T) {
	for _, x := range []struct {
		b []byte
		k uint64
	}{
		{[]byte{65, 0}, 0}, {[]byte{65, 63}, 63}, {[]byte{65, 64}, 1<<32 - 64}, {[]byte{65, 127}, 1<<32 - 1}, {[]byte{65, 192, 0}, 64}, {[]byte{65, 255, 0}, 127}, {[]byte{65, 255, 127}, 1<<32 - 1},
		{[]byte{65, 191, 127}, 1<<32 - 65}, {[]byte{65, 255, 255, 255, 255, 7}, 1<<31 - 1}, {[]byte{65, 128, 128, 128, 128, 120}, 1 << 31}, {[]byte{65, 255, 255, 255, 255, 127}, 1<<32 - 1},
		{[]byte{66, 0}, 0}, {[]byte{66, 63}, 63}, {[]byte{66, 64}, 1<<64 - 64}, {[]byte{66, 127}, 1<<64 - 1}, {[]byte{66, 192, 0}, 64}, {[]byte{66, 191, 127}, 1<<64 - 65},
		{[]byte{66, 255, 255, 255, 255, 15}, 1<<32 - 1}, {[]byte{66, 128, 128, 128, 128, 8}, 1 << 31}, {[]byte{66, 128, 128, 128, 128, 120}, 1<<64 - 1<<31},
		{[]byte{66, 255, 255, 255, 255, 255, 255, 255, 255, 255, 0}, 1<<63 - 1}, {[]byte{66, 128, 128, 128, 128, 128, 128, 128, 128, 128, 127}, 1 << 63}, {[]byte{66, 255, 255, 255, 255, 255, 255, 255, 255, 255, 127}, 1<<64 - 1},
	} {
		expect(t, x.b, len(x.b), api.Instr{Op: int(x.b[0]), K: x.k}, true)
	}
}

// P5.2: how many labels: the limit is asked ahead of what is missing or wrong behind it, and behind the number's own fault.
func TestHowManyLabels(t *testing.T) {
	for _, n := range []int{65, 66, 127, 128, 192, 256, 257, 320, 1 << 14, 1 << 16, 1<<16 + 1, 1 << 21, 1 << 28, 1<<31 - 1, 1 << 31, 1<<31 + 64, greatest - 1, greatest} {
		for least := range 6 {
			count := append([]byte{14}, layUnsigned(uint64(n), least)...)
			for _, back := range [][]byte{nil, {0}, {255}, {255, 255, 255, 255, 255}, make([]byte, 66), make([]byte, 400), bytes.Repeat([]byte{255}, 400)} {
				b := slices.Concat(count, back)
				if i, m, e := Read(b, 0); !equal(i, api.Instr{}) || m != 0 || e != api.ErrLimit {
					t.Errorf("Read(%v, 0) = %v, %d, %d; want ErrLimit", b, i, m, e)
				}
				compare(t, b, 0)
			}
		}
	}
	for n := range 66 {
		for labels := range 68 {
			b := append([]byte{14, byte(n)}, bytes.Repeat([]byte{3}, labels)...)
			want := api.OK
			if n > 64 {
				want = api.ErrLimit
			} else if labels <= n {
				want = api.ErrShort
			}
			i, m, e := Read(b, 0)
			if e != want || want == api.OK && (m != n+3 || !equal(i, api.Instr{Op: 14, A: 3, Labels: slices.Repeat([]int{3}, n)})) {
				t.Errorf("Read(%v, 0) = %v, %d, %d; want %d", b, i, m, e, want)
			}
			compare(t, b, 0)
		}
	}
}

// P5.2, P5.3: what is the first fault among several, in the chapter's order.
func TestFirstFault(t *testing.T) {
	for _, x := range []struct {
		b    []byte
		at   int
		want api.Errno
	}{
		{[]byte{6}, 2, api.ErrArg},
		{[]byte{6}, 0, api.ErrForm},
		{[]byte{2}, 0, api.ErrShort},
		{[]byte{2, 192}, 0, api.ErrForm}, // a byte, not a number
		{[]byte{2, 192, 127}, 0, api.ErrForm},
		{[]byte{12}, 0, api.ErrShort},
		{[]byte{12, 255, 255, 255, 255}, 0, api.ErrShort},
		{[]byte{12, 255, 255, 255, 255, 255}, 0, api.ErrForm},
		{[]byte{14, 255, 255, 255, 255, 31}, 0, api.ErrForm}, // ahead of the limit
		{[]byte{14, 193, 128, 128, 128, 16}, 0, api.ErrForm},
		{[]byte{14, 193, 128, 128, 128}, 0, api.ErrShort}, // ahead of the limit
		{[]byte{14, 193}, 0, api.ErrShort},
		{[]byte{14, 193, 0}, 0, api.ErrLimit}, // 65 in two bytes
		{[]byte{14, 192, 0}, 0, api.ErrShort}, // 64
		{[]byte{14, 2, 128}, 0, api.ErrShort},
		{[]byte{14, 2, 255, 255, 255, 255, 16}, 0, api.ErrForm}, // ahead of what is missing
		{[]byte{14, 2, 1, 255, 255, 255, 255, 16}, 0, api.ErrForm},
		{[]byte{14, 2, 1, 0}, 0, api.ErrShort},
		{[]byte{14, 2, 1, 0, 255}, 0, api.ErrShort},
		{[]byte{17, 255, 255, 255, 255, 16}, 0, api.ErrForm},
		{[]byte{17, 128}, 0, api.ErrShort},
		{[]byte{17, 3}, 0, api.ErrShort},
		{[]byte{17, 3, 1}, 0, api.ErrForm},
		{[]byte{17, 3, 128, 0}, 0, api.ErrForm}, // a byte, not a number
		{[]byte{63, 128, 0}, 0, api.ErrForm},
		{[]byte{64}, 0, api.ErrShort},
		{[]byte{64, 1}, 0, api.ErrForm},
		{[]byte{40}, 0, api.ErrShort},
		{[]byte{40, 2}, 0, api.ErrShort},
		{[]byte{40, 128}, 0, api.ErrShort},
		{[]byte{40, 255, 255, 255, 255, 16}, 0, api.ErrForm}, // ahead of what is missing
		{[]byte{40, 2, 255, 255, 255, 255, 16}, 0, api.ErrForm},
		{[]byte{65}, 0, api.ErrShort},
		{[]byte{65, 255, 255, 255, 255}, 0, api.ErrShort},
		{[]byte{66, 255, 255, 255, 255, 255, 255, 255, 255, 255}, 0, api.ErrShort},
	} {
		if i, n, e := Read(x.b, x.at); !equal(i, api.Instr{}) || n != 0 || e != x.want {
			t.Errorf("Read(%v, %d) = %v, %d, %d; want %d", x.b, x.at, i, n, e, x.want)
		}
		compare(t, x.b, x.at)
	}
}

// P5.2, P5.3: all lots of up to four bytes of those that mean something, behind a code of each kind, and at every place.
func TestEveryLotOfBytes(t *testing.T) {
	marks := []byte{0, 1, 2, 15, 16, 63, 64, 65, 120, 126, 127, 128, 129, 192, 255}
	lots := [][]byte{nil}
	for range 4 {
		var more [][]byte
		for _, b := range lots {
			for _, c := range marks {
				more = append(more, append(b[:len(b):len(b)], c))
			}
		}
		lots = more
		for _, b := range lots {
			for _, op := range []byte{4, 12, 14, 17, 40, 63, 65, 66} {
				compare(t, append([]byte{op}, b...), 0)
				if len(b) == 4 {
					compare(t, append([]byte{op, 128}, b...), 0)
					compare(t, append([]byte{op, 255, 255, 255, 255, 255}, b...), 0)
				}
			}
			if len(b) < 4 {
				for at := -2; at <= len(b)+2; at++ {
					compare(t, b, at)
				}
			}
		}
	}
}

// several are instructions of which no two are the same.
func several() []api.Instr {
	l := []api.Instr{{}, {Op: 255}, {Op: 14, A: 1, B: 2, K: 3, Labels: []int{4, 5}}}
	for _, v := range []int{1, 2, -1, 1 << 32, 1<<32 + 1, math.MinInt, math.MaxInt} {
		l = append(l,
			api.Instr{Op: v}, api.Instr{A: v}, api.Instr{B: v}, api.Instr{K: uint64(v)}, api.Instr{Labels: []int{v}},
			api.Instr{Op: 3, A: v}, api.Instr{A: v, B: v}, api.Instr{B: v, K: uint64(v)}, api.Instr{K: uint64(v), Labels: []int{v}},
			api.Instr{Labels: []int{v, 0}}, api.Instr{Labels: []int{0, v}}, api.Instr{Labels: []int{v, v, v}},
		)
	}
	l = append(l, api.Instr{Labels: []int{0}}, api.Instr{Labels: []int{0, 0}}, api.Instr{Op: 14, Labels: []int{1}})
	for _, n := range []int{63, 64, 65, 300} {
		l = append(l, api.Instr{Labels: make([]int, n)})
		for _, k := range []int{0, 1, n / 2, n - 2, n - 1} {
			list := make([]int, n)
			list[k] = 9
			l = append(l, api.Instr{Labels: list})
		}
	}
	return l
}

// P5.4: instructions that are the same, and such as differ.
func TestSame(t *testing.T) {
	all := several()
	for k, a := range all {
		for m, b := range all {
			b.Labels = slices.Clone(b.Labels)
			if Same(a, b) != (k == m) {
				t.Errorf("Same(%v, %v) = %v", a, b, k != m)
			}
		}
	}
}

// P5.4: of one that has all parts, each part alone, each label, and how many.
func TestSameButOnePart(t *testing.T) {
	a := api.Instr{Op: 14, A: 1, B: 2, K: 3, Labels: []int{4, 5, 6}}
	differs := func(change func(b *api.Instr)) {
		t.Helper()
		b := a
		b.Labels = slices.Clone(a.Labels)
		if !Same(a, b) || !Same(b, a) {
			t.Errorf("Same(%v, %v) = false", a, b)
		}
		change(&b)
		if Same(a, b) || Same(b, a) {
			t.Errorf("Same(%v, %v) = true", a, b)
		}
	}
	for _, d := range []int{1, -1, 64, 1 << 8, 1 << 32, math.MinInt} {
		differs(func(b *api.Instr) { b.Op += d })
		differs(func(b *api.Instr) { b.A += d })
		differs(func(b *api.Instr) { b.B += d })
		differs(func(b *api.Instr) { b.K += uint64(d) })
		for k := range a.Labels {
			differs(func(b *api.Instr) { b.Labels[k] += d })
		}
	}
	for n := range a.Labels {
		differs(func(b *api.Instr) { b.Labels = b.Labels[:n] })
		differs(func(b *api.Instr) { b.Labels = slices.Insert(b.Labels, n, 0) })
	}
	differs(func(b *api.Instr) { b.Labels = append(b.Labels, 0) })
	differs(func(b *api.Instr) { b.Labels = nil })
	differs(func(b *api.Instr) { slices.Reverse(b.Labels) })
	differs(func(b *api.Instr) { b.A, b.B = b.B, b.A })
}

// P5.3, P5.4: labels that are nil and empty are the same, of each code; so are ones with other room.
func TestNoLabels(t *testing.T) {
	none := [][]int{nil, {}, make([]int, 0, 9), []int{7, 8}[:0]}
	for op := range 256 {
		for _, l := range none {
			for _, m := range none {
				a, b := api.Instr{Op: op, Labels: l}, api.Instr{Op: op, Labels: m}
				if !Same(a, b) || Sane(a) != (kindByWords(op) != 0) {
					t.Errorf("Same(%#v, %#v) = %v, Sane %v", a, b, Same(a, b), Sane(a))
				}
			}
			there(t, api.Instr{Op: op, Labels: l})
		}
	}
	room := append(make([]int, 0, 9), 1)
	if !Same(api.Instr{Op: 14, Labels: room}, api.Instr{Op: 14, Labels: []int{1}}) {
		t.Error("Same hangs on room")
	}
}

// P5.3: what is ahead of what is laid stays, whatever it is.
func TestPutBehindBytes(t *testing.T) {
	for _, front := range [][]byte{nil, {}, {0}, {9, 255}, {14, 2, 1}, bytes.Repeat([]byte{255}, 300)} {
		for _, op := range ofEachKind() {
			i := api.Instr{Op: op}
			b, e := Put(front, i)
			if !saneByWords(i) {
				if len(b) != 0 || e != api.ErrArg {
					t.Errorf("Put(%v, %v) = %v, %d", front, i, b, e)
				}
				continue
			}
			if !bytes.Equal(b, slices.Concat(front, layByWords(i, 1))) || e != api.OK {
				t.Errorf("Put(%v, %v) = %v, %d", front, i, b, e)
			}
			if j, n, e := Read(append(b, 200), len(front)); !equal(i, j) || n != len(b) || e != api.OK {
				t.Errorf("Read(%v and 200, %d) = %v, %d, %d", b, len(front), j, n, e)
			}
		}
	}
}

// filled is l with room behind it, in which stand things that nobody may change.
func filled[T byte | int](l ...T) []T {
	room := slices.Concat(l, slices.Repeat([]T{77}, 600))
	return room[: len(l) : len(l)+600]
}

// asFilled tells whether l and the room behind it are as filled made them.
func asFilled[T byte | int](l []T, want ...T) bool {
	return slices.Equal(l, want) && slices.Equal(l[len(l):cap(l)], slices.Repeat([]T{77}, 600))
}

// R3: what is laid leaves what was handed in as it was, also behind it, and shares nothing with it nor with what is laid later.
func TestLayingSharesNothing(t *testing.T) {
	front, labels := filled[byte](9, 8), filled(1, 300)
	table := api.Instr{Op: 14, A: 2, Labels: labels}
	put := []api.Instr{table, {Op: 0}, {Op: 2}, {Op: 12, A: 300}, {Op: 17, A: 3}, {Op: 40, A: 2, B: 128}, {Op: 64}, {Op: 65, K: greatest}, {Op: 66, K: 64}, table}
	var laid, want [][]byte
	for _, i := range put {
		b, e := Put(front, i)
		if e != api.OK {
			t.Fatalf("Put(%v) = %d", i, e)
		}
		Put(b, i)
		laid, want = append(laid, b), append(want, slices.Concat([]byte{9, 8}, layByWords(i, 1)))
	}
	for _, i := range []api.Instr{{Op: 6}, {Op: 14, B: 1, Labels: labels}, {Op: 0, Labels: labels}, {Op: 14, Labels: labels[:65:600]}} {
		if b, e := Put(front, i); b != nil || e != api.ErrArg {
			t.Errorf("Put(%v) = %v, %d", i, b, e)
		}
	}
	Sane(table)
	Same(table, api.Instr{Op: 14, A: 2, Labels: labels[:1]})
	if !asFilled(front, 9, 8) || !asFilled(labels, 1, 300) {
		t.Error("what was handed in is changed:", front[:cap(front)], labels[:cap(labels)])
	}
	clear(front[:cap(front)])
	clear(labels[:cap(labels)])
	for k, b := range laid {
		if !bytes.Equal(b, want[k]) {
			t.Errorf("laid and changed later: %v, want %v", b, want[k])
		}
		clear(b[:cap(b)])
	}
}

// R3: what is read shares nothing with the bytes, and nothing with what is read later; behind the bytes nothing is read.
func TestReadingSharesNothing(t *testing.T) {
	b := filled[byte](14, 3, 1, 2, 172, 2, 4, 12, 5)
	kept := bytes.Clone(b)
	want := api.Instr{Op: 14, A: 4, Labels: []int{1, 2, 300}}
	first, _, _ := Read(b, 0)
	second, _, _ := Read(b, 0)
	Read(b, 7)
	for end := range len(b) {
		cut := filled(kept[:end]...)
		compare(t, cut, 0)
		if !asFilled(cut, kept[:end]...) {
			t.Error("bytes that are cut short are changed:", cut[:cap(cut)])
		}
	}
	if !asFilled(b, kept...) {
		t.Error("what was read is changed:", b[:cap(b)])
	}
	clear(b[:cap(b)])
	if !equal(first, want) || !equal(second, want) {
		t.Error("an instruction changes with the bytes it was read from:", first, second)
	}
	clear(first.Labels[:cap(first.Labels)])
	if !equal(second, want) {
		t.Error("two instructions share labels:", second)
	}
	third, _, _ := Read(kept, 0)
	clear(second.Labels[:cap(second.Labels)])
	if !equal(third, want) {
		t.Error("two instructions share labels:", third)
	}
}

// Chapter 5, Examples.
func TestExamples(t *testing.T) {
	for _, x := range []struct {
		i api.Instr
		b []byte
	}{
		{api.Instr{Op: 14, A: 2, Labels: []int{1, 0}}, []byte{14, 2, 1, 0, 2}},
		{api.Instr{Op: 65, K: 1<<32 - 1}, []byte{65, 127}},
	} {
		if b, e := Put(nil, x.i); !bytes.Equal(b, x.b) || e != api.OK {
			t.Error(x.i, b, e)
		}
		if i, n, e := Read(x.b, 0); !Same(i, x.i) || n != len(x.b) || e != api.OK {
			t.Error(x.b, i, n, e)
		}
	}
}

package leb

import (
	"bytes"
	"math"
	"math/big"
	"testing"

	"avocet/api"
)

// repeated is c n times, and then the rest.
func repeated(c byte, n int, rest ...byte) []byte {
	return append(bytes.Repeat([]byte{c}, n), rest...)
}

// edgesU are numbers around each place where a digit is added.
func edgesU() []uint64 {
	l := []uint64{0, 1, 2, 126, 127, 128, 129, 624485, math.MaxUint64 - 1, math.MaxUint64}
	for k := range 64 {
		p := uint64(1) << k
		l = append(l, p-1, p, p+1, p|p>>3, ^p)
	}
	return l
}

// edgesS are numbers around each place where a digit is added, on both sides of 0.
func edgesS() []int64 {
	l := []int64{math.MinInt64, math.MinInt64 + 1, math.MaxInt64 - 1, math.MaxInt64, -123456}
	for k := range 63 {
		p := int64(1) << k
		l = append(l, p-1, p, p+1, -p-1, -p, -p+1)
	}
	return l
}

// layBig lays v as P1.1 tells it, in numbers without an end, so that it shares nothing with the program.
func layBig(v *big.Int, signed bool) []byte {
	var out []byte
	v = new(big.Int).Set(v)
	for {
		seven := new(big.Int).And(v, big.NewInt(127)).Int64()
		v.Rsh(v, 7)
		last := v.Sign() == 0 && (!signed || seven&64 == 0)
		last = last || signed && v.Cmp(big.NewInt(-1)) == 0 && seven&64 != 0
		if last {
			return append(out, byte(seven))
		}
		out = append(out, byte(seven+128))
	}
}

// readBig reads as P1.2 and P1.3 tell it, in numbers without an end.
func readBig(b []byte, at, bits int, signed bool) (*big.Int, int, api.Errno) {
	v := new(big.Int)
	if bits < 1 || bits > 64 || at < 0 || at > len(b) {
		return v, 0, api.ErrArg
	}
	last := (bits + 6) / 7
	for k := 1; ; k++ {
		if at == len(b) {
			return new(big.Int), 0, api.ErrShort
		}
		c := b[at]
		at++
		for d := range 7 {
			v.SetBit(v, (k-1)*7+d, uint(c>>d)&1)
		}
		if k == last && (c >= 128 || !fitsBig(v, bits, k*7, signed)) {
			return new(big.Int), 0, api.ErrForm
		}
		if c < 128 {
			if signed && v.Bit(k*7-1) == 1 {
				v.Sub(v, new(big.Int).Lsh(big.NewInt(1), uint(k*7)))
			}
			return v, at, api.OK
		}
	}
}

// fitsBig: are the digits from the place bits on 0, or what the sign says?
func fitsBig(v *big.Int, bits, end int, signed bool) bool {
	want := uint(0)
	if signed {
		want = v.Bit(bits - 1)
	}
	for k := bits; k < end; k++ {
		if v.Bit(k) != want {
			return false
		}
	}
	return true
}

// compare holds both readers against readBig.
func compare(t *testing.T, b []byte, at, bits int) {
	t.Helper()
	kept := bytes.Clone(b)
	u, n, e := ReadU(b, at, bits)
	if v, m, f := readBig(b, at, bits, false); e != f || n != m || !v.IsUint64() || v.Uint64() != u {
		t.Errorf("ReadU(%v, %d, %d) = %d, %d, %d; want %v, %d, %d", b, at, bits, u, n, e, v, m, f)
	}
	s, n, e := ReadS(b, at, bits)
	if v, m, f := readBig(b, at, bits, true); e != f || n != m || !v.IsInt64() || v.Int64() != s {
		t.Errorf("ReadS(%v, %d, %d) = %d, %d, %d; want %v, %d, %d", b, at, bits, s, n, e, v, m, f)
	}
	if !bytes.Equal(b, kept) {
		t.Errorf("reading changed %v to %v", kept, b)
	}
}

// P1.1
func TestLayUnsigned(t *testing.T) {
	for _, x := range []struct {
		v    uint64
		want []byte
	}{
		{0, []byte{0}},
		{127, []byte{127}},
		{128, []byte{128, 1}},
		{16383, []byte{255, 127}},
		{16384, []byte{128, 128, 1}},
		{624485, []byte{229, 142, 38}},
		{math.MaxUint64, repeated(255, 9, 1)},
	} {
		if got := U(nil, x.v); !bytes.Equal(got, x.want) {
			t.Errorf("U(nil, %d) = %v, want %v", x.v, got, x.want)
		}
	}
	for _, v := range edgesU() {
		want := layBig(new(big.Int).SetUint64(v), false)
		if got := U(nil, v); !bytes.Equal(got, want) {
			t.Errorf("U(nil, %d) = %v, want %v", v, got, want)
		}
		if got := U([]byte{200, 3}, v); !bytes.Equal(got, append([]byte{200, 3}, want...)) {
			t.Errorf("U behind 200, 3 of %d = %v", v, got)
		}
		if n := LenU(v); n != len(want) {
			t.Errorf("LenU(%d) = %d, want %d", v, n, len(want))
		}
	}
}

// P1.1
func TestLaySigned(t *testing.T) {
	for _, x := range []struct {
		v    int64
		want []byte
	}{
		{0, []byte{0}},
		{63, []byte{63}},
		{64, []byte{192, 0}},
		{127, []byte{255, 0}},
		{128, []byte{128, 1}},
		{-1, []byte{127}},
		{-64, []byte{64}},
		{-65, []byte{191, 127}},
		{-123456, []byte{192, 187, 120}},
		{math.MaxInt64, repeated(255, 9, 0)},
		{math.MinInt64, repeated(128, 9, 127)},
	} {
		if got := S(nil, x.v); !bytes.Equal(got, x.want) {
			t.Errorf("S(nil, %d) = %v, want %v", x.v, got, x.want)
		}
	}
	for _, v := range edgesS() {
		want := layBig(big.NewInt(v), true)
		if got := S(nil, v); !bytes.Equal(got, want) {
			t.Errorf("S(nil, %d) = %v, want %v", v, got, want)
		}
		if got := S([]byte{200, 3}, v); !bytes.Equal(got, append([]byte{200, 3}, want...)) {
			t.Errorf("S behind 200, 3 of %d = %v", v, got)
		}
		if n := LenS(v); n != len(want) {
			t.Errorf("LenS(%d) = %d, want %d", v, n, len(want))
		}
	}
}

// P1.1 with R3: neither b nor the room behind it is written, and no two answers share memory.
func TestLayLeavesItsArgument(t *testing.T) {
	lay := map[string]func(b []byte, v int64) []byte{
		"U": func(b []byte, v int64) []byte { return U(b, uint64(v)) },
		"S": S,
	}
	for name, f := range lay {
		whole := repeated(77, 32)
		b := whole[:2]
		first, second := f(b, 300), f(b, 5)
		first[0] = 1
		if !bytes.Equal(whole, repeated(77, 32)) {
			t.Errorf("%s wrote into what was handed in: %v", name, whole)
		}
		if !bytes.Equal(first, []byte{1, 77, 172, 2}) || !bytes.Equal(second, []byte{77, 77, 5}) {
			t.Errorf("%s: answers share memory: %v, %v", name, first, second)
		}
	}
}

// P1.2
func TestReadUnsigned(t *testing.T) {
	for _, x := range []struct {
		b        []byte
		at, bits int
		v        uint64
		behind   int
		e        api.Errno
	}{
		{[]byte{229, 142, 38}, 0, 32, 624485, 3, api.OK},
		{[]byte{9, 229, 142, 38, 9}, 1, 32, 624485, 4, api.OK},
		{[]byte{0}, 0, 1, 0, 1, api.OK},
		{[]byte{1}, 0, 1, 1, 1, api.OK},
		{[]byte{2}, 0, 1, 0, 0, api.ErrForm},
		{[]byte{127}, 0, 7, 127, 1, api.OK},
		{[]byte{128, 0}, 0, 7, 0, 0, api.ErrForm},
		{[]byte{255, 1}, 0, 8, 255, 2, api.OK},
		{[]byte{255, 2}, 0, 8, 0, 0, api.ErrForm},
		{[]byte{255, 128, 0}, 0, 8, 0, 0, api.ErrForm},
		{repeated(255, 4, 15), 0, 32, math.MaxUint32, 5, api.OK},
		{repeated(255, 4, 16), 0, 32, 0, 0, api.ErrForm},
		{repeated(255, 4, 31), 0, 33, 1<<33 - 1, 5, api.OK},
		{repeated(255, 4, 32), 0, 33, 0, 0, api.ErrForm},
		{repeated(128, 5, 0), 0, 33, 0, 0, api.ErrForm},
		{repeated(255, 8, 127), 0, 63, math.MaxInt64, 9, api.OK},
		{repeated(255, 9, 0), 0, 63, 0, 0, api.ErrForm},
		{repeated(255, 9, 1), 0, 64, math.MaxUint64, 10, api.OK},
		{repeated(255, 9, 2), 0, 64, 0, 0, api.ErrForm},
		{repeated(128, 10, 0), 0, 64, 0, 0, api.ErrForm},
	} {
		v, behind, e := ReadU(x.b, x.at, x.bits)
		if v != x.v || behind != x.behind || e != x.e {
			t.Errorf("ReadU(%v, %d, %d) = %d, %d, %d", x.b, x.at, x.bits, v, behind, e)
		}
	}
}

// P1.3
func TestReadSigned(t *testing.T) {
	for _, x := range []struct {
		b        []byte
		at, bits int
		v        int64
		behind   int
		e        api.Errno
	}{
		{[]byte{192, 187, 120}, 0, 32, -123456, 3, api.OK},
		{[]byte{9, 192, 187, 120, 9}, 1, 32, -123456, 4, api.OK},
		{[]byte{0}, 0, 1, 0, 1, api.OK},
		{[]byte{127}, 0, 1, -1, 1, api.OK},
		{[]byte{1}, 0, 1, 0, 0, api.ErrForm},
		{[]byte{126}, 0, 1, 0, 0, api.ErrForm},
		{[]byte{63}, 0, 7, 63, 1, api.OK},
		{[]byte{64}, 0, 7, -64, 1, api.OK},
		{[]byte{192, 0}, 0, 7, 0, 0, api.ErrForm},
		{[]byte{255, 0}, 0, 8, 127, 2, api.OK},
		{[]byte{128, 127}, 0, 8, -128, 2, api.OK},
		{[]byte{255, 1}, 0, 8, 0, 0, api.ErrForm},
		{[]byte{128, 126}, 0, 8, 0, 0, api.ErrForm},
		{repeated(255, 4, 7), 0, 32, math.MaxInt32, 5, api.OK},
		{repeated(128, 4, 120), 0, 32, math.MinInt32, 5, api.OK},
		{repeated(255, 4, 127), 0, 32, -1, 5, api.OK},
		{repeated(255, 4, 8), 0, 32, 0, 0, api.ErrForm},
		{repeated(255, 4, 15), 0, 32, 0, 0, api.ErrForm},
		{repeated(255, 4, 119), 0, 32, 0, 0, api.ErrForm},
		{repeated(255, 4, 15), 0, 33, math.MaxUint32, 5, api.OK},
		{repeated(128, 4, 112), 0, 33, -1 << 32, 5, api.OK},
		{repeated(255, 4, 16), 0, 33, 0, 0, api.ErrForm},
		{repeated(128, 4, 96), 0, 33, 0, 0, api.ErrForm},
		{repeated(255, 8, 63), 0, 63, 1<<62 - 1, 9, api.OK},
		{repeated(128, 8, 64), 0, 63, -1 << 62, 9, api.OK},
		{repeated(255, 9, 0), 0, 64, math.MaxInt64, 10, api.OK},
		{repeated(128, 9, 127), 0, 64, math.MinInt64, 10, api.OK},
		{repeated(255, 9, 1), 0, 64, 0, 0, api.ErrForm},
		{repeated(255, 9, 126), 0, 64, 0, 0, api.ErrForm},
		{repeated(255, 10, 127), 0, 64, 0, 0, api.ErrForm},
	} {
		v, behind, e := ReadS(x.b, x.at, x.bits)
		if v != x.v || behind != x.behind || e != x.e {
			t.Errorf("ReadS(%v, %d, %d) = %d, %d, %d", x.b, x.at, x.bits, v, behind, e)
		}
	}
}

// P1.2, P1.3, P1: what may not be handed in is told ahead of what is wrong with the bytes.
func TestReadWrongArguments(t *testing.T) {
	for _, x := range []struct {
		b        []byte
		at, bits int
		e        api.Errno
	}{
		{[]byte{0}, 0, 0, api.ErrArg},
		{[]byte{0}, 0, -1, api.ErrArg},
		{[]byte{0}, 0, 65, api.ErrArg},
		{[]byte{0}, 0, math.MinInt, api.ErrArg},
		{[]byte{0}, 0, math.MaxInt, api.ErrArg},
		{[]byte{0}, -1, 32, api.ErrArg},
		{[]byte{0}, 2, 32, api.ErrArg},
		{[]byte{0}, math.MinInt, 32, api.ErrArg},
		{[]byte{0}, math.MaxInt, 32, api.ErrArg},
		{nil, 0, 65, api.ErrArg},
		{nil, 1, 32, api.ErrArg},
		{nil, 0, 1, api.ErrShort},
		{nil, 0, 64, api.ErrShort},
		{[]byte{}, 0, 32, api.ErrShort},
		{[]byte{0}, 1, 32, api.ErrShort},
		{[]byte{128}, 0, 32, api.ErrShort},
		{[]byte{128}, 0, 8, api.ErrShort},
		{repeated(255, 4), 0, 32, api.ErrShort},
		{repeated(255, 9), 0, 64, api.ErrShort},
		{[]byte{128}, 0, 7, api.ErrForm},
		{repeated(255, 5), 0, 32, api.ErrForm},
		{repeated(255, 10), 0, 64, api.ErrForm},
		{[]byte{0, 128, 128}[:2], 1, 32, api.ErrShort},
	} {
		if v, n, e := ReadU(x.b, x.at, x.bits); v != 0 || n != 0 || e != x.e {
			t.Errorf("ReadU(%v, %d, %d) = %d, %d, %d; want error %d", x.b, x.at, x.bits, v, n, e, x.e)
		}
		if v, n, e := ReadS(x.b, x.at, x.bits); v != 0 || n != 0 || e != x.e {
			t.Errorf("ReadS(%v, %d, %d) = %d, %d, %d; want error %d", x.b, x.at, x.bits, v, n, e, x.e)
		}
	}
}

// P1.2, P1.3: every byte in the last place of every length, for every number of digits.
func TestReadEveryLastByte(t *testing.T) {
	for bits := -1; bits <= 66; bits++ {
		for n := range 12 {
			for _, c := range []byte{128, 129, 191, 192, 213, 255} {
				for last := range 256 {
					compare(t, repeated(c, n, byte(last)), 0, bits)
				}
				compare(t, repeated(c, n), 0, bits)
			}
		}
	}
}

// P1.2, P1.3: every place, within and beyond the bytes.
func TestReadEveryPlace(t *testing.T) {
	b := []byte{5, 128, 0, 255, 127, 192, 187, 120, 128, 128, 128, 128, 128, 1, 64, 255}
	for at := -2; at <= len(b)+2; at++ {
		for bits := -1; bits <= 66; bits++ {
			compare(t, b, at, bits)
		}
	}
}

// P1.4: what is laid is read, with as many digits as it needs, and with more.
func TestLaidIsRead(t *testing.T) {
	for _, v := range edgesU() {
		need := max(1, new(big.Int).SetUint64(v).BitLen())
		b := append(U([]byte{129}, v), 255)
		for bits := need; bits <= 64; bits++ {
			if got, n, e := ReadU(b, 1, bits); got != v || n != len(b)-1 || e != api.OK {
				t.Errorf("ReadU of U(%d) with %d digits = %d, %d, %d", v, bits, got, n, e)
			}
		}
		if _, _, e := ReadU(b, 1, need-1); need > 1 && e != api.ErrForm {
			t.Errorf("ReadU of U(%d) with a digit too few: error %d", v, e)
		}
	}
	for _, v := range edgesS() {
		need := big.NewInt(v^v>>63).BitLen() + 1
		b := append(S([]byte{129}, v), 255)
		for bits := need; bits <= 64; bits++ {
			if got, n, e := ReadS(b, 1, bits); got != v || n != len(b)-1 || e != api.OK {
				t.Errorf("ReadS of S(%d) with %d digits = %d, %d, %d", v, bits, got, n, e)
			}
		}
		if _, _, e := ReadS(b, 1, need-1); need > 1 && e != api.ErrForm {
			t.Errorf("ReadS of S(%d) with a digit too few: error %d", v, e)
		}
	}
}

// longer is b with a last byte more that says the same: fill is 0 or 127.
func longer(b []byte, fill byte) []byte {
	out := bytes.Clone(b)
	out[len(out)-1] += 128
	return append(out, fill)
}

// P1.4: more bytes than are laid may be read, up to the byte number bits / 7, rounded up.
func TestLongerFormsAreRead(t *testing.T) {
	for _, v := range edgesU() {
		b := U(nil, v)
		for len(b) < 10 {
			b = longer(b, 0)
			if got, n, e := ReadU(b, 0, 64); got != v || n != len(b) || e != api.OK {
				t.Errorf("ReadU(%v, 0, 64) = %d, %d, %d; want %d", b, got, n, e, v)
			}
		}
		if _, _, e := ReadU(longer(b, 0), 0, 64); e != api.ErrForm {
			t.Errorf("ReadU of eleven bytes for %d: error %d", v, e)
		}
	}
	for _, v := range edgesS() {
		b, fill := S(nil, v), byte(v>>63)&127
		for len(b) < 10 {
			b = longer(b, fill)
			if got, n, e := ReadS(b, 0, 64); got != v || n != len(b) || e != api.OK {
				t.Errorf("ReadS(%v, 0, 64) = %d, %d, %d; want %d", b, got, n, e, v)
			}
		}
		if _, _, e := ReadS(longer(b, fill), 0, 64); e != api.ErrForm {
			t.Errorf("ReadS of eleven bytes for %d: error %d", v, e)
		}
	}
}

// P1.2, P1.3, P1: any bytes, any place, any number of digits.
func FuzzRead(f *testing.F) {
	f.Add([]byte(nil), 0, 32)
	f.Add([]byte{192, 187, 120}, 0, 32)
	f.Add(repeated(255, 9, 1), 0, 64)
	f.Add([]byte{0}, math.MinInt, math.MaxInt)
	f.Fuzz(func(t *testing.T, b []byte, at, bits int) { compare(t, b, at, bits) })
}

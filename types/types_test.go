package types

import (
	"bytes"
	"math"
	"slices"
	"testing"

	"avocet/api"
)

const greatest = math.MaxUint32

// wrongPlaces are places at which nothing of n bytes can stand, and what each is answered with.
func wrongPlaces(n int) map[int]api.Errno {
	return map[int]api.Errno{
		n: api.ErrShort, n + 1: api.ErrArg, n + 2: api.ErrArg, -1: api.ErrArg, -2: api.ErrArg, -n - 1: api.ErrArg,
		math.MaxInt: api.ErrArg, math.MaxInt - 1: api.ErrArg, math.MinInt: api.ErrArg, math.MinInt + 1: api.ErrArg, 1 << 32: api.ErrArg, -1 << 32: api.ErrArg,
	}
}

// isNoFunc tells whether an error came with nothing else.
func isNoFunc(f api.FuncType, behind int) bool {
	return len(f.Params) == 0 && len(f.Results) == 0 && behind == 0
}

// equal holds two types against each other byte by byte, so that it shares nothing with Same.
func equal(a, b api.FuncType) bool {
	return bytes.Equal(a.Params, b.Params) && bytes.Equal(a.Results, b.Results)
}

// number is a number of 32 digits of two that stands in bytes, as layer 1 tells it, and the place behind.
func number(b []byte, at int) (int, int, api.Errno) {
	v := 0
	for k := range 5 {
		if at == len(b) {
			return 0, 0, api.ErrShort
		}
		c := b[at]
		at++
		if k == 4 && c > 15 {
			return 0, 0, api.ErrForm
		}
		v += int(c&127) << (7 * k)
		if c < 128 {
			return v, at, api.OK
		}
	}
	panic("a fifth byte below 16 ends a number")
}

// funcByWords is Func, word by word of P4.2.
func funcByWords(b []byte, at int) (api.FuncType, int, api.Errno) {
	switch {
	case at < 0 || at > len(b):
		return api.FuncType{}, 0, api.ErrArg
	case at == len(b):
		return api.FuncType{}, 0, api.ErrShort
	case b[at] != 96:
		return api.FuncType{}, 0, api.ErrForm
	}
	at++
	var lists [2][]byte
	for k, most := range []int{16, 1} {
		n, behind, e := number(b, at)
		if e != api.OK {
			return api.FuncType{}, 0, e
		}
		if n > most {
			return api.FuncType{}, 0, api.ErrLimit
		}
		for at = behind; n > 0; n-- {
			if at == len(b) {
				return api.FuncType{}, 0, api.ErrShort
			}
			if b[at] != 127 && b[at] != 126 {
				return api.FuncType{}, 0, api.ErrForm
			}
			lists[k] = append(lists[k], b[at])
			at++
		}
	}
	return api.FuncType{Params: lists[0], Results: lists[1]}, at, api.OK
}

// limitsByWords is Limits, word by word of P4.3.
func limitsByWords(b []byte, at int) (api.Limits, int, api.Errno) {
	switch {
	case at < 0 || at > len(b):
		return api.Limits{}, 0, api.ErrArg
	case at == len(b):
		return api.Limits{}, 0, api.ErrShort
	case b[at] > 1:
		return api.Limits{}, 0, api.ErrForm
	}
	var l api.Limits
	var e api.Errno
	l.HasMax = b[at] == 1
	l.Min, at, e = number(b, at+1)
	if e == api.OK && l.HasMax {
		l.Max, at, e = number(b, at)
	}
	if e != api.OK {
		return api.Limits{}, 0, e
	}
	return l, at, api.OK
}

// compare holds Func and Limits against these; bytes that are read stay as they were.
func compare(t *testing.T, b []byte, at int) {
	t.Helper()
	kept := bytes.Clone(b)
	f, n, e := Func(b, at)
	if g, m, d := funcByWords(b, at); !equal(f, g) || n != m || e != d {
		t.Errorf("Func(%v, %d) = %v, %d, %d; want %v, %d, %d", b, at, f, n, e, g, m, d)
	}
	l, n, e := Limits(b, at)
	if k, m, d := limitsByWords(b, at); l != k || n != m || e != d {
		t.Errorf("Limits(%v, %d) = %v, %d, %d; want %v, %d, %d", b, at, l, n, e, k, m, d)
	}
	if !bytes.Equal(b, kept) {
		t.Errorf("reading changed %v to %v", kept, b)
	}
}

// P4.1: every byte as a value's type, alone and among others.
func TestValOfEveryByte(t *testing.T) {
	for c := range 256 {
		v, n, e := Val([]byte{127, byte(c), 126}, 1)
		if c == 126 || c == 127 {
			if v != byte(c) || n != 2 || e != api.OK {
				t.Errorf("Val of %d = %d, %d, %d", c, v, n, e)
			}
		} else if v != 0 || n != 0 || e != api.ErrForm {
			t.Errorf("Val of %d = %d, %d, %d; it is no value's type", c, v, n, e)
		}
		if w, n, f := Val([]byte{byte(c)}, 0); w != v || f != e || n != 0 && n != 1 {
			t.Errorf("Val of %d alone = %d, %d, %d", c, w, n, f)
		}
	}
}

// P4.1 to P4.3: places at which nothing can stand, whatever is there otherwise.
func TestWrongPlaces(t *testing.T) {
	for _, b := range [][]byte{nil, {}, {127}, {96, 1, 127, 1, 126}, {1, 2, 3}, {0}, {255, 255}} {
		for at, want := range wrongPlaces(len(b)) {
			if v, n, e := Val(b, at); v != 0 || n != 0 || e != want {
				t.Errorf("Val(%v, %d) = %d, %d, %d; want %d", b, at, v, n, e, want)
			}
			if f, n, e := Func(b, at); !isNoFunc(f, n) || e != want {
				t.Errorf("Func(%v, %d) = %v, %d, %d; want %d", b, at, f, n, e, want)
			}
			if l, n, e := Limits(b, at); l != (api.Limits{}) || n != 0 || e != want {
				t.Errorf("Limits(%v, %d) = %v, %d, %d; want %d", b, at, l, n, e, want)
			}
		}
	}
}

// P4.2, P4.3: every first byte, ahead of what is right otherwise, of what is wrong, and of nothing.
func TestEveryFirstByte(t *testing.T) {
	for c := range 256 {
		for _, rest := range [][]byte{nil, {0, 0}, {1, 127, 1, 126}, {255}, {17}, {1, 1}} {
			b := append([]byte{9, byte(c)}, rest...)
			compare(t, b, 0)
			compare(t, b, 1)
			if f, n, e := Func(b, 1); c != 96 && (!isNoFunc(f, n) || e != api.ErrForm) {
				t.Errorf("Func(%v, 1) = %v, %d, %d", b, f, n, e)
			}
			if l, n, e := Limits(b, 1); c > 1 && (l != (api.Limits{}) || n != 0 || e != api.ErrForm) {
				t.Errorf("Limits(%v, 1) = %v, %d, %d", b, l, n, e)
			}
		}
	}
}

// funcs are types that may be, and their bytes.
func funcs() map[string]api.FuncType {
	sixteen := bytes.Repeat([]byte{127, 126}, 8)
	return map[string]api.FuncType{
		"\x60\x00\x00":                                {},
		"\x60\x00\x01\x7f":                            {Results: []byte{127}},
		"\x60\x00\x01\x7e":                            {Results: []byte{126}},
		"\x60\x01\x7f\x00":                            {Params: []byte{127}},
		"\x60\x01\x7e\x01\x7f":                        {Params: []byte{126}, Results: []byte{127}},
		"\x60\x02\x7f\x7e\x01\x7f":                    {Params: []byte{127, 126}, Results: []byte{127}},
		"\x60\x03\x7e\x7e\x7f\x01\x7e":                {Params: []byte{126, 126, 127}, Results: []byte{126}},
		"\x60\x0f" + string(sixteen[1:]) + "\x00":     {Params: sixteen[1:]},
		"\x60\x0f" + string(sixteen[1:]) + "\x01\x7e": {Params: sixteen[1:], Results: []byte{126}},
		"\x60\x10" + string(sixteen) + "\x00":         {Params: sixteen},
		"\x60\x10" + string(sixteen) + "\x01\x7f":     {Params: sixteen, Results: []byte{127}},
	}
}

// P4.2, P4.5: types that may be are laid as they should, and read, between other bytes and at the end; cut short anywhere, they are not.
func TestFuncThereAndBack(t *testing.T) {
	for s, f := range funcs() {
		if !Sane(f) {
			t.Errorf("Sane(%v) = false", f)
		}
		for _, front := range [][]byte{nil, {}, {9}, {96, 255, 0}} {
			want := append(bytes.Clone(front), s...)
			b, e := PutFunc(front, f)
			if !bytes.Equal(b, want) || e != api.OK {
				t.Errorf("PutFunc(%v, %v) = %v, %d; want %v", front, f, b, e, want)
			}
			for _, back := range []string{"", "\x7f", "\x00\xff"} {
				if g, n, e := Func(append(bytes.Clone(want), back...), len(front)); !equal(f, g) || n != len(want) || e != api.OK {
					t.Errorf("Func(%v and %v, %d) = %v, %d, %d; want %v", want, back, len(front), g, n, e, f)
				}
			}
			for end := len(front); end < len(want); end++ {
				if g, n, e := Func(want[:end:end], len(front)); !isNoFunc(g, n) || e != api.ErrShort {
					t.Errorf("Func(%v, %d) = %v, %d, %d; want ErrShort", want[:end], len(front), g, n, e)
				}
			}
		}
	}
}

// P4.2: bytes that are no function's type, by the first error in the chapter's order, and longer ones that are one.
func TestFuncInOrder(t *testing.T) {
	all := bytes.Repeat([]byte{127}, 40)
	for _, x := range []struct {
		front []byte
		rest  []byte
		want  api.Errno
	}{
		{[]byte{96}, nil, api.ErrShort},
		{[]byte{95, 17}, nil, api.ErrForm},       // the form is ahead of the number
		{[]byte{96, 16}, all[:15], api.ErrShort}, // and the last one
		{[]byte{96, 16}, all[:16], api.ErrShort}, // and how many results
		{[]byte{96, 17}, nil, api.ErrLimit},      // the limit is ahead of what is missing
		{[]byte{96, 17}, all, api.ErrLimit},
		{[]byte{96, 18}, all, api.ErrLimit},
		{[]byte{96, 32}, all, api.ErrLimit},
		{[]byte{96, 17, 0}, nil, api.ErrLimit}, // and ahead of what is no value's type
		{[]byte{96, 127}, all, api.ErrLimit},
		{[]byte{96, 128, 1}, all, api.ErrLimit},
		{[]byte{96, 128, 2}, all, api.ErrLimit},                        // 256
		{[]byte{96, 128, 128, 4}, all, api.ErrLimit},                   // 65536
		{[]byte{96, 255, 255, 255, 255, 15}, all, api.ErrLimit},        // 2^32 - 1
		{[]byte{96, 145, 128, 128, 128, 8}, all, api.ErrLimit},         // 2^31 + 17
		{[]byte{96, 128, 128, 128, 128, 8}, all, api.ErrLimit},         // 2^31
		{[]byte{96, 145, 0}, all, api.ErrLimit},                        // 17 in two bytes
		{[]byte{96, 145, 128, 128, 128, 0}, all, api.ErrLimit},         // 17 in five
		{[]byte{96, 129, 0, 127, 0}, nil, api.OK},                      // 1 in two
		{[]byte{96, 129, 128, 128, 128, 0, 126, 0}, nil, api.OK},       // 1 in five
		{[]byte{96, 128, 128, 128, 128, 0, 128, 0}, nil, api.OK},       // 0 in five, and in two
		{[]byte{96, 144, 0}, append(all[:16:16], 129, 0, 126), api.OK}, // 16 in two, 1 in two
		{[]byte{96, 129, 128, 128, 128, 16}, all, api.ErrForm},         // more than 32 digits
		{[]byte{96, 255, 255, 255, 255, 31}, all, api.ErrForm},
		{[]byte{96, 129, 128, 128, 128, 128, 0}, all, api.ErrForm}, // six bytes
		{[]byte{96, 145, 128, 128, 128, 128}, nil, api.ErrForm},
		{[]byte{96, 145, 128, 128, 128}, nil, api.ErrShort},
		{[]byte{96, 128}, nil, api.ErrShort},
		{[]byte{96, 1, 125, 0}, nil, api.ErrForm}, // no value's type
		{[]byte{96, 1, 125}, nil, api.ErrForm},    // ahead of what is missing
		{[]byte{96, 2, 127, 64}, nil, api.ErrForm},
		{[]byte{96, 2, 64}, nil, api.ErrForm},
		{[]byte{96, 3, 127, 0, 126, 2}, nil, api.ErrForm}, // and ahead of how many results
		{[]byte{96, 1, 0, 129, 128, 128, 128, 16}, nil, api.ErrForm},
		{[]byte{96, 0}, nil, api.ErrShort},
		{[]byte{96, 0, 1}, nil, api.ErrShort},
		{[]byte{96, 0, 1, 125}, nil, api.ErrForm},
		{[]byte{96, 1, 126, 1, 96}, nil, api.ErrForm},
		{[]byte{96, 0, 2}, nil, api.ErrLimit}, // of results: likewise
		{[]byte{96, 0, 2, 127, 127}, nil, api.ErrLimit},
		{[]byte{96, 0, 2, 0, 0}, nil, api.ErrLimit},
		{[]byte{96, 1, 127, 16}, all, api.ErrLimit},
		{[]byte{96, 1, 127, 17}, all, api.ErrLimit},
		{[]byte{96, 1, 127, 129, 2}, all, api.ErrLimit}, // 257
		{[]byte{96, 0, 129, 128, 128, 128, 8}, all, api.ErrLimit},
		{[]byte{96, 0, 255, 255, 255, 255, 15}, all, api.ErrLimit},
		{[]byte{96, 0, 130, 0, 127, 127}, nil, api.ErrLimit}, // 2 in two bytes
		{[]byte{96, 0, 129, 0, 127}, nil, api.OK},
		{[]byte{96, 0, 129, 128, 128, 128, 0, 127}, nil, api.OK},
		{[]byte{96, 0, 129, 128, 128, 128, 16}, all, api.ErrForm},
		{[]byte{96, 0, 129, 128, 128, 128, 128}, all, api.ErrForm},
		{[]byte{96, 0, 129, 128}, nil, api.ErrShort},
	} {
		b := append(x.front, x.rest...)
		f, n, e := Func(b, 0)
		if e != x.want || e != api.OK && !isNoFunc(f, n) {
			t.Errorf("Func(%v, 0) = %v, %d, %d; want %d", b, f, n, e, x.want)
		}
		compare(t, b, 0)
	}
}

// P4.2: each byte as each param and each result, alone and among others, in bytes and in a type.
func TestEveryByteInFunc(t *testing.T) {
	for c := range 256 {
		ok := c == 126 || c == 127
		for _, n := range []int{1, 2, 15, 16} {
			for k := range n {
				params := bytes.Repeat([]byte{126}, n)
				params[k] = byte(c)
				mayBe(t, api.FuncType{Params: params}, ok)
				mayBe(t, api.FuncType{Params: params, Results: []byte{127}}, ok)
				b := append([]byte{96, byte(n)}, params...)
				compare(t, b, 0)
				compare(t, append(b, 1, 127), 0)
				compare(t, append(b, 2, 127), 0)
			}
		}
		mayBe(t, api.FuncType{Results: []byte{byte(c)}}, ok)
		mayBe(t, api.FuncType{Params: []byte{127}, Results: []byte{byte(c)}}, ok)
		compare(t, []byte{96, 0, 1, byte(c)}, 0)
		compare(t, []byte{96, 1, 127, 1, byte(c)}, 0)
	}
}

// mayBe holds Sane and PutFunc against ok, and what is laid against what is read.
func mayBe(t *testing.T, f api.FuncType, ok bool) {
	t.Helper()
	if Sane(f) != ok {
		t.Errorf("Sane(%v) = %v", f, !ok)
	}
	b, e := PutFunc([]byte{7}, f)
	if !ok {
		if len(b) != 0 || e != api.ErrArg {
			t.Errorf("PutFunc(%v) = %v, %d; want ErrArg", f, b, e)
		}
		return
	}
	if e != api.OK || b[0] != 7 {
		t.Fatalf("PutFunc(%v) = %v, %d", f, b, e)
	}
	if g, n, e := Func(b, 1); !equal(f, g) || n != len(b) || e != api.OK {
		t.Errorf("Func(%v, 1) = %v, %d, %d; want %v", b, g, n, e, f)
	}
}

// P4.2: how many params and results there may be.
func TestHowMany(t *testing.T) {
	for _, c := range []byte{127, 126} {
		for params := range 40 {
			for results := range 20 {
				f := api.FuncType{Params: bytes.Repeat([]byte{c}, params), Results: bytes.Repeat([]byte{c}, results)}
				mayBe(t, f, params <= 16 && results <= 1)
			}
		}
		for _, n := range []int{127, 128, 255, 256, 257, 272, 1 << 16, 1<<16 + 1, 1 << 20} {
			l := bytes.Repeat([]byte{c}, n)
			mayBe(t, api.FuncType{Params: l}, false)
			mayBe(t, api.FuncType{Results: l}, false)
			mayBe(t, api.FuncType{Params: l, Results: l}, false)
		}
	}
}

// numbers are numbers at and around each bound of what limits may hold.
func numbers() []int {
	l := []int{0, 1, 2, 3, 4, 127, 128, 129, 16383, 16384, 2097151, 2097152, 268435455, 268435456}
	for _, p := range []int{1 << 31, 1 << 32, 1 << 33, 1 << 40, 1 << 62} {
		l = append(l, p-1, p, p+1, -p-1, -p, -p+1)
	}
	return append(l, -1, -2, -128, math.MinInt, math.MinInt+1, math.MaxInt, math.MaxInt-1)
}

// lay lays a number of 0 or more as layer 1 tells it.
func lay(v int) []byte {
	var b []byte
	for ; v > 127; v /= 128 {
		b = append(b, byte(v%128)+128)
	}
	return append(b, byte(v))
}

// P4.3, P4.5: all numbers as Min and Max, with and without HasMax: laid as they should, and read; or not at all.
func TestLimitsThereAndBack(t *testing.T) {
	for _, least := range numbers() {
		for _, most := range numbers() {
			for _, has := range []bool{false, true} {
				l := api.Limits{Min: least, Max: most, HasMax: has}
				ok := least >= 0 && least <= greatest && (has && most >= 0 && most <= greatest || !has && most == 0)
				for _, front := range [][]byte{nil, {}, {9, 255}} {
					b, e := PutLimits(front, l)
					if !ok {
						if len(b) != 0 || e != api.ErrArg {
							t.Errorf("PutLimits(%v) = %v, %d; want ErrArg", l, b, e)
						}
						continue
					}
					want := slices.Concat(front, []byte{0}, lay(least))
					if has {
						want = slices.Concat(front, []byte{1}, lay(least), lay(most))
					}
					if !bytes.Equal(b, want) || e != api.OK {
						t.Errorf("PutLimits(%v, %v) = %v, %d; want %v", front, l, b, e, want)
					}
					limitsRead(t, want, len(front), l)
				}
			}
		}
	}
}

// limitsRead holds that l are read at at, whatever follows, and that nothing is of bytes cut short.
func limitsRead(t *testing.T, b []byte, at int, l api.Limits) {
	t.Helper()
	for _, back := range []string{"", "\x00", "\xff\xff"} {
		if k, n, e := Limits(append(bytes.Clone(b), back...), at); k != l || n != len(b) || e != api.OK {
			t.Errorf("Limits(%v and %v, %d) = %v, %d, %d; want %v", b, back, at, k, n, e, l)
		}
	}
	for end := at; end < len(b); end++ {
		if k, n, e := Limits(b[:end:end], at); k != (api.Limits{}) || n != 0 || e != api.ErrShort {
			t.Errorf("Limits(%v, %d) = %v, %d, %d; want ErrShort", b[:end], at, k, n, e)
		}
	}
}

// P4.3: bytes that are no limits, by the first error in the chapter's order, and longer ones that are some.
func TestLimitsInOrder(t *testing.T) {
	for _, x := range []struct {
		b    []byte
		l    api.Limits
		n    int
		want api.Errno
	}{
		{[]byte{2}, api.Limits{}, 0, api.ErrForm},
		{[]byte{3, 1, 2}, api.Limits{}, 0, api.ErrForm},
		{[]byte{128, 0, 0}, api.Limits{}, 0, api.ErrForm},
		{[]byte{129, 0, 0, 0}, api.Limits{}, 0, api.ErrForm},
		{[]byte{0}, api.Limits{}, 0, api.ErrShort},
		{[]byte{0, 128}, api.Limits{}, 0, api.ErrShort},
		{[]byte{0, 128, 128, 128, 128}, api.Limits{}, 0, api.ErrShort},
		{[]byte{0, 128, 128, 128, 128, 16}, api.Limits{}, 0, api.ErrForm},
		{[]byte{0, 128, 128, 128, 128, 128}, api.Limits{}, 0, api.ErrForm},
		{[]byte{0, 255, 255, 255, 255, 15}, api.Limits{Min: greatest}, 6, api.OK},
		{[]byte{0, 128, 128, 128, 128, 8}, api.Limits{Min: 1 << 31}, 6, api.OK},
		{[]byte{0, 129, 0, 5}, api.Limits{Min: 1}, 3, api.OK},
		{[]byte{0, 129, 128, 128, 128, 0}, api.Limits{Min: 1}, 6, api.OK},
		{[]byte{0, 1, 2}, api.Limits{Min: 1}, 2, api.OK},
		{[]byte{1}, api.Limits{}, 0, api.ErrShort},
		{[]byte{1, 3}, api.Limits{}, 0, api.ErrShort},
		{[]byte{1, 3, 128}, api.Limits{}, 0, api.ErrShort},
		{[]byte{1, 255, 255, 255, 255, 31}, api.Limits{}, 0, api.ErrForm}, // Min's error is ahead of what is missing
		{[]byte{1, 255}, api.Limits{}, 0, api.ErrShort},
		{[]byte{1, 0, 255, 255, 255, 255, 31}, api.Limits{}, 0, api.ErrForm},
		{[]byte{1, 0, 255, 255, 255, 255, 255, 0}, api.Limits{}, 0, api.ErrForm},
		{[]byte{1, 0, 255, 255, 255, 255, 15}, api.Limits{Max: greatest, HasMax: true}, 7, api.OK},
		{[]byte{1, 0, 0}, api.Limits{HasMax: true}, 3, api.OK},
		{[]byte{1, 128, 0, 128, 128, 0, 7}, api.Limits{HasMax: true}, 6, api.OK},
		{[]byte{1, 5, 3}, api.Limits{Min: 5, Max: 3, HasMax: true}, 3, api.OK}, // nothing holds Max against Min here
	} {
		if l, n, e := Limits(x.b, 0); l != x.l || n != x.n || e != x.want {
			t.Errorf("Limits(%v, 0) = %v, %d, %d; want %v, %d, %d", x.b, l, n, e, x.l, x.n, x.want)
		}
		compare(t, x.b, 0)
	}
}

// P4.2, P4.3: all lots of up to five bytes of those that mean something, at every place.
func TestEveryLotOfBytes(t *testing.T) {
	marks := []byte{0, 1, 2, 15, 16, 17, 96, 125, 126, 127, 128, 129, 144, 255}
	lots := [][]byte{nil}
	for range 5 {
		var longer [][]byte
		for _, b := range lots {
			for _, c := range marks {
				longer = append(longer, append(b[:len(b):len(b)], c))
			}
		}
		lots = longer
		for _, b := range lots {
			compare(t, b, 0)
			compare(t, append([]byte{96}, b...), 0)
			compare(t, append([]byte{96, 1, 126}, b...), 0)
			compare(t, append([]byte{1}, b...), 0)
			if len(b) < 4 {
				for at := -2; at <= len(b)+2; at++ {
					compare(t, b, at)
				}
			}
		}
	}
}

// P4.4: types that are one, and types that differ.
func TestSame(t *testing.T) {
	lists := [][]byte{
		nil, {127}, {126}, {0}, {64}, {127, 127}, {127, 126}, {126, 127}, {126, 126}, {127, 127, 127}, {127, 126, 127}, {127, 127, 126},
		bytes.Repeat([]byte{127}, 15), bytes.Repeat([]byte{127}, 16), bytes.Repeat([]byte{127}, 17), append(bytes.Repeat([]byte{127}, 15), 126), append([]byte{126}, bytes.Repeat([]byte{127}, 15)...),
		bytes.Repeat([]byte{0}, 300), bytes.Repeat([]byte{0}, 301), {0, 0}, {255}, {255, 0}, {195, 40},
	}
	for a1, p := range lists {
		for a2, r := range lists {
			for b1, q := range lists {
				for b2, s := range lists {
					f, g := api.FuncType{Params: p, Results: r}, api.FuncType{Params: bytes.Clone(q), Results: bytes.Clone(s)}
					if want := a1 == b1 && a2 == b2; Same(f, g) != want {
						t.Errorf("Same(%v, %v) = %v", f, g, !want)
					}
				}
			}
		}
	}
}

// P4.4: nil lists and empty ones are one; so are ones with other room.
func TestSameOfNothing(t *testing.T) {
	for _, a := range [][]byte{nil, {}, make([]byte, 0, 9)} {
		for _, b := range [][]byte{nil, {}, make([]byte, 0, 9)} {
			for _, c := range [][]byte{nil, {}, {127}} {
				if f, g := (api.FuncType{Params: a, Results: c}), (api.FuncType{Params: b, Results: c}); !Same(f, g) || !Sane(f) {
					t.Errorf("Same(%#v, %#v) = false, or Sane", f, g)
				}
				if f, g := (api.FuncType{Params: c, Results: a}), (api.FuncType{Params: c, Results: b}); !Same(f, g) || !Sane(g) {
					t.Errorf("Same(%#v, %#v) = false, or Sane", f, g)
				}
			}
		}
	}
	room := append(make([]byte, 0, 9), 127)
	if !Same(api.FuncType{Params: room}, api.FuncType{Params: []byte{127}}) {
		t.Error("Same hangs on room")
	}
}

// P4.4: one by one.
func TestWithinOneByOne(t *testing.T) {
	type limits = api.Limits
	five := limits{Min: 2, Max: 5, HasMax: true}
	for _, x := range []struct {
		l, of limits
		want  bool
	}{
		{five, five, true},
		{limits{Min: 1, Max: 5, HasMax: true}, five, false},
		{limits{Min: 3, Max: 5, HasMax: true}, five, true},
		{limits{Min: 2, Max: 4, HasMax: true}, five, true},
		{limits{Min: 2, Max: 6, HasMax: true}, five, false},
		{limits{Min: 9, Max: 5, HasMax: true}, five, true}, // Min is held against Min alone
		{limits{Min: 2, Max: 0, HasMax: true}, five, true},
		{limits{Min: 2}, five, false},
		{limits{Min: 2, Max: 5}, five, false}, // Max is nothing without HasMax
		{limits{Min: 2, Max: 3}, five, false},
		{five, limits{Min: 2}, true},
		{five, limits{Min: 3}, false},
		{five, limits{Min: 2, Max: 3}, true},
		{limits{Min: 2}, limits{Min: 2}, true},
		{limits{Min: 2}, limits{Min: 1}, true},
		{limits{Min: 2}, limits{Min: 3}, false},
		{limits{Min: 2, Max: 7}, limits{Min: 2, Max: 1}, true},
		{limits{}, limits{}, true},
		{limits{}, limits{HasMax: true}, false},
		{limits{HasMax: true}, limits{HasMax: true}, true},
		{limits{Max: 1, HasMax: true}, limits{HasMax: true}, false},
		{limits{HasMax: true}, limits{}, true},
	} {
		if Within(x.l, x.of) != x.want {
			t.Errorf("Within(%v, %v) = %v", x.l, x.of, !x.want)
		}
	}
}

// P4.4: all numbers as all bounds, also those that may not be.
func TestWithinEverywhere(t *testing.T) {
	few := []int{math.MinInt, -1, 0, 1, 2, 3, 127, 128, greatest - 1, greatest, greatest + 1, math.MaxInt}
	var all []api.Limits
	for _, least := range few {
		for _, most := range few {
			all = append(all, api.Limits{Min: least, Max: most}, api.Limits{Min: least, Max: most, HasMax: true})
		}
	}
	for _, l := range all {
		for _, of := range all {
			want := l.Min >= of.Min
			if of.HasMax {
				want = want && l.HasMax && l.Max <= of.Max
			}
			if Within(l, of) != want {
				t.Errorf("Within(%v, %v) = %v", l, of, !want)
			}
		}
	}
}

// filled is b with room behind it, in which stand bytes that nobody may change.
func filled(b []byte) []byte {
	room := slices.Concat(b, bytes.Repeat([]byte{77}, 64))
	return room[: len(b) : len(b)+64]
}

// asFilled tells whether b and the room behind it are as filled made them.
func asFilled(b, want []byte) bool {
	return bytes.Equal(b, want) && bytes.Equal(b[len(b):cap(b)], bytes.Repeat([]byte{77}, 64))
}

// R3: what is laid leaves what was handed in as it was, also behind it, and shares nothing with it nor with what is laid later.
func TestLayingSharesNothing(t *testing.T) {
	front, params, results := filled([]byte{9, 8}), filled([]byte{127, 126}), filled([]byte{127})
	f := api.FuncType{Params: params, Results: results}
	first, _ := PutFunc(front, f)
	second, _ := PutFunc(front, api.FuncType{Params: []byte{126}})
	third, _ := PutLimits(front, api.Limits{Min: 300, Max: 400, HasMax: true})
	fourth, _ := PutLimits(front, api.Limits{Min: 3})
	fifth, _ := PutFunc(filled(nil), api.FuncType{})
	PutFunc(first, f)
	PutFunc(front, api.FuncType{Params: bytes.Repeat([]byte{0}, 3)})
	PutLimits(front, api.Limits{Min: -1})
	Sane(f)
	Same(f, api.FuncType{Params: params[:1]})
	if !asFilled(front, []byte{9, 8}) || !asFilled(params, []byte{127, 126}) || !asFilled(results, []byte{127}) {
		t.Error("what was handed in is changed:", front[:cap(front)], params[:cap(params)], results[:cap(results)])
	}
	clear(front[:cap(front)])
	clear(params[:cap(params)])
	clear(results[:cap(results)])
	for _, x := range [][2][]byte{
		{first, {9, 8, 96, 2, 127, 126, 1, 127}}, {second, {9, 8, 96, 1, 126, 0}},
		{third, {9, 8, 1, 172, 2, 144, 3}}, {fourth, {9, 8, 0, 3}}, {fifth, {96, 0, 0}},
	} {
		if !bytes.Equal(x[0], x[1]) {
			t.Errorf("laid and changed later: %v, want %v", x[0], x[1])
		}
		clear(x[0][:cap(x[0])])
	}
	if b, _ := PutFunc([]byte{1}, f); b != nil {
		t.Error("params of 0 are laid")
	}
}

// R3: what is read shares nothing with the bytes, and its lists nothing with each other.
func TestReadingSharesNothing(t *testing.T) {
	b := filled([]byte{96, 3, 127, 126, 127, 1, 126})
	f, _, _ := Func(b, 0)
	g, _, _ := Func(b, 0)
	Limits(b, 0)
	Val(b, 2)
	if !asFilled(b, []byte{96, 3, 127, 126, 127, 1, 126}) {
		t.Error("what was read is changed:", b[:cap(b)])
	}
	clear(b[:cap(b)])
	want := api.FuncType{Params: []byte{127, 126, 127}, Results: []byte{126}}
	if !equal(f, want) || !equal(g, want) {
		t.Error("a type changes with the bytes it was read from:", f, g)
	}
	clear(f.Params[:cap(f.Params)])
	if f.Results[0] != 126 || !equal(g, want) {
		t.Error("lists share memory:", f, g)
	}
	clear(g.Results[:cap(g.Results)])
	if !bytes.Equal(g.Params, want.Params) {
		t.Error("lists share memory:", g)
	}
}

// Chapter 4, Examples.
func TestExample(t *testing.T) {
	f := api.FuncType{Params: []byte{api.I32, api.I64}, Results: []byte{api.I32}}
	b, e := PutFunc(nil, f)
	if !bytes.Equal(b, []byte{96, 2, 127, 126, 1, 127}) || e != api.OK {
		t.Error(b, e)
	}
}

package sect

import (
	"bytes"
	"math"
	"slices"
	"strings"
	"testing"
	"unicode/utf8"

	"avocet/api"
	"avocet/leb"
)

// start is what each module begins with, as P7.1 tells it.
var start = []byte{0, 97, 115, 109, 1, 0, 0, 0}

// module is the eight bytes, and what stands behind them.
func module(parts ...string) []byte {
	return append(bytes.Clone(start), strings.Join(parts, "")...)
}

// numberByWords is a number of at most 32 digits of two, and the place behind, as layer 1 tells it.
func numberByWords(b []byte, at int) (int, int, api.Errno) {
	v := 0
	for k := 0; ; k++ {
		if at+k >= len(b) {
			return 0, 0, api.ErrShort
		}
		c := int(b[at+k])
		if k == 4 && c > 15 {
			return 0, 0, api.ErrForm
		}
		v += c % 128 * (1 << (7 * k))
		if c < 128 {
			return v, at + k + 1, api.OK
		}
	}
}

// nameByWords is the error of what should begin with a name, as layer 3 tells it.
func nameByWords(b []byte) api.Errno {
	n, from, e := numberByWords(b, 0)
	switch {
	case e != api.OK:
		return e
	case len(b)-from < n:
		return api.ErrShort
	case n > 64:
		return api.ErrLimit
	case !utf8.Valid(b[from : from+n]):
		return api.ErrForm
	}
	return api.OK
}

// splitByWords is Split, word by word of P7.1.
func splitByWords(b []byte) ([]Sect, api.Errno) {
	if len(b) > 65536 {
		return nil, api.ErrLimit
	}
	if len(b) < 8 {
		return nil, api.ErrShort
	}
	if !bytes.Equal(b[:8], start) {
		return nil, api.ErrForm
	}
	var l []Sect
	for at := 8; at < len(b); {
		id := int(b[at])
		if id > 11 {
			return nil, api.ErrForm
		}
		n, from, e := numberByWords(b, at+1)
		if e != api.OK {
			return nil, e
		}
		if len(b)-from < n {
			return nil, api.ErrShort
		}
		data := b[from : from+n]
		if id == 0 {
			if e := nameByWords(data); e != api.OK {
				return nil, e
			}
		}
		for _, s := range l {
			if id > 0 && s.ID >= id {
				return nil, api.ErrForm
			}
		}
		l, at = append(l, Sect{id, data}), from+n
	}
	return l, api.OK
}

// joinByWords is Join, word by word of P7.2.
func joinByWords(l []Sect) ([]byte, api.Errno) {
	b := bytes.Clone(start)
	for k, s := range l {
		if s.ID < 0 || s.ID > 11 {
			return nil, api.ErrArg
		}
		if s.ID == 0 && nameByWords(s.Data) != api.OK {
			return nil, api.ErrArg
		}
		for _, ahead := range l[:k] {
			if s.ID > 0 && ahead.ID >= s.ID {
				return nil, api.ErrArg
			}
		}
		b = slices.Concat(b, []byte{byte(s.ID)}, leb.U(nil, uint64(len(s.Data))), s.Data)
	}
	if len(b) > 65536 {
		return nil, api.ErrLimit
	}
	return b, api.OK
}

// equal holds sections against each other, ID by ID and byte by byte.
func equal(a, b []Sect) bool {
	return slices.EqualFunc(a, b, func(x, y Sect) bool { return x.ID == y.ID && bytes.Equal(x.Data, y.Data) })
}

// copied are sections that share nothing with those.
func copied(l []Sect) []Sect {
	c := slices.Clone(l)
	for k := range c {
		c[k].Data = bytes.Clone(c[k].Data)
	}
	return c
}

// splitHeld holds Split against the words, and what it tells against Join.
func splitHeld(t *testing.T, b []byte) {
	t.Helper()
	kept := bytes.Clone(b)
	l, e := Split(b)
	want, f := splitByWords(b)
	if !equal(l, want) || e != f {
		t.Errorf("Split(%.200v) = %.200v, %d; want %.200v, %d", b, l, e, want, f)
	}
	if !bytes.Equal(b, kept) {
		t.Errorf("Split changed %.200v to %.200v", kept, b)
	}
	if e != api.OK {
		if len(l) != 0 {
			t.Errorf("Split(%.200v) = %.200v beside %d", b, l, e)
		}
		return
	}
	again, e := Join(l)
	if e != api.OK || len(again) > len(b) || len(again) == len(b) && !bytes.Equal(again, b) {
		t.Errorf("Split(%.200v), joined: %.200v, %d", b, again, e)
	}
	if back, e := Split(again); !equal(back, l) || e != api.OK {
		t.Errorf("Split(%.200v), joined and split: %.200v, %d", b, back, e)
	}
}

// joinHeld holds Join against the words, and Split against what is joined.
func joinHeld(t *testing.T, l []Sect) {
	t.Helper()
	kept := copied(l)
	b, e := Join(l)
	want, f := joinByWords(l)
	if !bytes.Equal(b, want) || e != f {
		t.Errorf("Join(%.200v) = %.200v, %d; want %.200v, %d", l, b, e, want, f)
	}
	if !equal(l, kept) {
		t.Errorf("Join changed %.200v to %.200v", kept, l)
	}
	if e != api.OK {
		return
	}
	if back, e := Split(b); !equal(back, l) || e != api.OK {
		t.Errorf("Join(%.200v), split: %.200v, %d", l, back, e)
	}
}

// splitIs: Split answers those sections.
func splitIs(t *testing.T, b []byte, want ...Sect) {
	t.Helper()
	if l, e := Split(b); !equal(l, want) || e != api.OK {
		t.Errorf("Split(%.200v) = %.200v, %d; want %.200v", b, l, e, want)
	}
	splitHeld(t, b)
}

// splitFails: Split answers that error, and nothing else.
func splitFails(t *testing.T, b []byte, want api.Errno) {
	t.Helper()
	if l, e := Split(b); len(l) != 0 || e != want {
		t.Errorf("Split(%.200v) = %.200v, %d; want error %d", b, l, e, want)
	}
	splitHeld(t, b)
}

// joinFails: Join answers that error, and nothing else.
func joinFails(t *testing.T, want api.Errno, l ...Sect) {
	t.Helper()
	if b, e := Join(l); len(b) != 0 || e != want {
		t.Errorf("Join(%.200v) = %.200v, %d; want error %d", l, b, e, want)
	}
	joinHeld(t, l)
}

// section is a section in bytes, its number as short as may be.
func section(id int, data string) string {
	return string(byte(id)) + string(leb.U(nil, uint64(len(data)))) + data
}

// P7.1: the eight bytes alone are a module without sections.
func TestSplitOfTheStart(t *testing.T) {
	splitIs(t, module())
	splitFails(t, nil, api.ErrShort)
	for n := range 8 {
		splitFails(t, start[:n], api.ErrShort)
		splitFails(t, bytes.Repeat([]byte{255}, n), api.ErrShort)
		splitFails(t, make([]byte, n), api.ErrShort)
	}
}

// P7.1: each of the first eight may be wrong alone, whatever stands behind them.
func TestSplitOfAWrongStart(t *testing.T) {
	for k := range 8 {
		for c := range 256 {
			for _, rest := range []string{"", "\x01\x00", "\x0c", "\x01"} {
				b := module(rest)
				if b[k] == byte(c) {
					continue
				}
				b[k] = byte(c)
				splitFails(t, b, api.ErrForm)
			}
		}
	}
	splitFails(t, []byte("asm\x00\x01\x00\x00\x00"), api.ErrForm)
	splitFails(t, []byte("\x00asm\x00\x00\x00\x01"), api.ErrForm)
	splitFails(t, make([]byte, 8), api.ErrForm)
}

// P7.1: more than 65536 bytes are too many, whatever else is wrong of them.
func TestSplitOfManyBytes(t *testing.T) {
	for _, n := range []int{65535, 65536, 65537, 65538, 131072} {
		data := strings.Repeat("x", n-12)
		good := module(section(1, data))
		wrongStart := bytes.Clone(good)
		wrongStart[3] = 'n'
		wrongID := bytes.Clone(good)
		wrongID[8] = 12
		short := module("\x01" + string(leb.U(nil, uint64(n-11))) + data)
		if len(good) != n || len(short) != n {
			t.Fatal(len(good), len(short), n)
		}
		if n > 65536 {
			splitFails(t, good, api.ErrLimit)
			splitFails(t, wrongStart, api.ErrLimit)
			splitFails(t, wrongID, api.ErrLimit)
			splitFails(t, short, api.ErrLimit)
			splitFails(t, make([]byte, n), api.ErrLimit)
			continue
		}
		splitIs(t, good, Sect{1, []byte(data)})
		splitFails(t, wrongStart, api.ErrForm)
		splitFails(t, wrongID, api.ErrForm)
		splitFails(t, short, api.ErrShort)
		splitFails(t, make([]byte, n), api.ErrForm)
	}
}

// P7.1: as many sections as may be: those of the ID 0 with an empty name are three bytes each.
func TestSplitOfManySections(t *testing.T) {
	many := (65536 - 8) / 3
	b := module(strings.Repeat("\x00\x01\x00", many))
	l, e := Split(b)
	if len(l) != many || e != api.OK {
		t.Fatalf("%d sections, %d; want %d", len(l), e, many)
	}
	for k, s := range l {
		if s.ID != 0 || !bytes.Equal(s.Data, []byte{0}) {
			t.Fatalf("section %d is %v", k, s)
		}
	}
	if again, e := Join(l); !bytes.Equal(again, b) || e != api.OK {
		t.Errorf("joined they are %d bytes, %d", len(again), e)
	}
	if l, e := Split(append(b, 1)); len(l) != 0 || e != api.ErrShort {
		t.Errorf("%d sections, %d; want ErrShort", len(l), e)
	}
	all := "\x00\x01\x00"
	var want []Sect
	want = append(want, Sect{0, []byte{0}})
	for id := 1; id <= 11; id++ {
		all += section(id, "\x01") + "\x00\x01\x00"
		want = append(want, Sect{id, []byte{1}}, Sect{0, []byte{0}})
	}
	splitIs(t, module(all), want...)
}

// P7.1: each ID alone, with no bytes, one and some.
func TestSplitOfEachID(t *testing.T) {
	for id := range 256 {
		for _, data := range []string{"", "\x00", "\x01a", "\x00bc", "\xff"} {
			b := module(section(id, data))
			switch {
			case id > 11:
				splitFails(t, b, api.ErrForm)
			case id > 0:
				splitIs(t, b, Sect{id, []byte(data)})
			default:
				splitHeld(t, b)
			}
		}
		if id > 11 {
			splitFails(t, module(string([]byte{byte(id)})), api.ErrForm)
			splitFails(t, module(section(1, ""), string([]byte{byte(id)})), api.ErrForm)
		}
	}
	splitFails(t, module("\x0c"), api.ErrForm)
	splitFails(t, module("\xff"), api.ErrForm)
	splitFails(t, module("\x8b\x00"), api.ErrForm) // an ID is one byte, no number in bytes
}

// P7.1, P7.4: IDs above 0 rise; sections of the ID 0 may stand anywhere, as many as there are.
func TestSplitOfEachOrder(t *testing.T) {
	var ids []int
	var more func()
	more = func() {
		var text string
		var want []Sect
		rise, top := true, 0
		for k, id := range ids {
			data := "\x01" + string(rune('a'+k))
			text += section(id, data)
			want = append(want, Sect{id, []byte(data)})
			if id > 0 {
				rise, top = rise && id > top, max(top, id)
			}
		}
		if rise {
			splitIs(t, module(text), want...)
			if b, e := Join(want); !bytes.Equal(b, module(text)) || e != api.OK {
				t.Errorf("Join(%v) = %v, %d", want, b, e)
			}
		} else {
			splitFails(t, module(text), api.ErrForm)
			joinFails(t, api.ErrArg, want...)
		}
		if len(ids) == 5 {
			return
		}
		for _, id := range []int{0, 1, 2, 3, 10, 11} {
			ids = append(ids, id)
			more()
			ids = ids[:len(ids)-1]
		}
	}
	more()
	for a := 1; a <= 11; a++ {
		for c := 1; c <= 11; c++ {
			b := module(section(a, "x"), section(c, ""))
			if a < c {
				splitIs(t, b, Sect{a, []byte("x")}, Sect{c, nil})
			} else {
				splitFails(t, b, api.ErrForm)
			}
		}
	}
}

// P7.1: what is cut off is told at each place; between sections it is a module of fewer.
func TestSplitCutOff(t *testing.T) {
	long := strings.Repeat("y", 300)
	parts := []string{section(0, "\x03abcd"), section(1, ""), section(2, "z"), section(0, "\x00"), section(5, long), section(11, "\x02\x03"), section(0, "\x01n"+long)}
	whole := module(parts...)
	between := map[int]int{8: 1}
	n := 8
	for k, p := range parts {
		n += len(p)
		between[n] = k + 2
	}
	for end := range len(whole) + 1 {
		l, e := Split(whole[:end])
		if k := between[end]; k > 0 {
			if len(l) != k-1 || e != api.OK {
				t.Errorf("cut off at %d: %d sections, %d; want %d", end, len(l), e, k-1)
			}
		} else if len(l) != 0 || e != api.ErrShort {
			t.Errorf("cut off at %d: %d sections, %d; want ErrShort", end, len(l), e)
		}
		splitHeld(t, whole[:end])
	}
	for _, s := range []string{"\x01", "\x01\x80", "\x01\xff\xff\xff\xff", "\x01\x02a", "\x01\x82\x00a", "\x01\xff\xff\xff\xff\x0f", "\x01\xff\xff\xff\xff\x07ab", "\x00", "\x00\x80", "\x00\x02\x00", "\x0b\x01"} {
		splitFails(t, module(s), api.ErrShort)
	}
}

// P7.1: a number may be in more bytes than it needs, but not in more than one of 32 digits of two may have.
func TestSplitOfEachNumber(t *testing.T) {
	for _, n := range []string{"\x02", "\x82\x00", "\x82\x80\x00", "\x82\x80\x80\x00", "\x82\x80\x80\x80\x00"} {
		splitIs(t, module("\x01", n, "ab", "\x02", n, "cd"), Sect{1, []byte("ab")}, Sect{2, []byte("cd")})
		splitIs(t, module("\x00", n, "\x01d"), Sect{0, []byte("\x01d")})
	}
	for _, n := range []string{"\x82\x80\x80\x80\x80\x00", "\x82\x80\x80\x80\x80", "\x82\x80\x80\x80\x10", "\x82\x80\x80\x80\x70", "\xff\xff\xff\xff\x1f", "\x80\x80\x80\x80\x7f", "\xff\xff\xff\xff\xff"} {
		splitFails(t, module("\x01", n, "ab"), api.ErrForm)
		splitFails(t, module("\x00", n, "\x01a"), api.ErrForm)
		splitFails(t, module("\x01", n), api.ErrForm)
	}
	splitFails(t, module("\x0c\xff\xff\xff\xff\xff"), api.ErrForm)
	splitFails(t, module("\x01\x80\x80\x80\x80\x08ab"), api.ErrShort) // 2^31, which an int32 has not
	splitFails(t, module("\x01\xff\xff\xff\xff\x0fab"), api.ErrShort)
}

// P7.1: of no bytes, of all bytes, and of each size about what its number needs.
func TestSplitOfEachSize(t *testing.T) {
	for _, n := range []int{0, 1, 2, 63, 64, 126, 127, 128, 129, 16382, 16383, 16384, 16385, 65523, 65524} {
		data := bytes.Repeat([]byte{7}, n)
		splitIs(t, module(section(3, string(data))), Sect{3, data})
	}
	all := make([]byte, 256)
	for k := range all {
		all[k] = byte(k)
	}
	for id := 1; id <= 11; id++ {
		splitIs(t, module(section(id, string(all))), Sect{id, all})
	}
	splitIs(t, module(section(4, string(start))), Sect{4, start})
}

// nameFaults are what a section of the ID 0 may be, and the error of the name.
var nameFaults = []struct {
	data string
	e    api.Errno
}{
	{"\x00", api.OK}, {"\x00\xff\xfe", api.OK}, {"\x01a", api.OK}, {"\x01a\x80", api.OK}, {"\x03\xe2\x82\xac", api.OK}, {"\x81\x00a", api.OK}, {"\x81\x80\x80\x80\x00a", api.OK},
	{"", api.ErrShort}, {"\x80", api.ErrShort}, {"\x80\x80\x80\x80", api.ErrShort}, {"\x01", api.ErrShort}, {"\x02a", api.ErrShort}, {"\x81\x00", api.ErrShort}, {"\x41a", api.ErrShort}, {"\xff\xff\xff\xff\x0fa", api.ErrShort}, {"\x02\xff", api.ErrShort},
	{"\x01\xff", api.ErrForm}, {"\x02\xc0\x80", api.ErrForm}, {"\x03\xed\xa0\x80", api.ErrForm}, {"\x02\xe2\x82\xac", api.ErrForm}, {"\x81\x80\x80\x80\x80\x00a", api.ErrForm}, {"\x81\x80\x80\x80\x10a", api.ErrForm}, {"\x80\x80\x80\x80\x80", api.ErrForm},
}

// longNames are names about as long as may be, each with and without bytes behind.
func longNames() map[string]api.Errno {
	l := map[string]api.Errno{}
	for _, behind := range []string{"", "\xff", "bc"} {
		l["\x3f"+strings.Repeat("a", 63)+behind] = api.OK
		l["\x40"+strings.Repeat("a", 64)+behind] = api.OK
		l["\x40"+strings.Repeat("é", 32)+behind] = api.OK
		l["\x41"+strings.Repeat("a", 65)+behind] = api.ErrLimit
		l["\x41"+strings.Repeat("\xff", 65)+behind] = api.ErrLimit
		l["\x40"+strings.Repeat("\xff", 64)+behind] = api.ErrForm
		l["\xc8\x01"+strings.Repeat("a", 200)+behind] = api.ErrLimit
		l["\xc8\x01"+strings.Repeat("a", 190)+behind] = api.ErrShort
	}
	return l
}

// P7.1, P7.2: a section of the ID 0 begins with a name, of its own bytes alone; no other has to.
func TestNames(t *testing.T) {
	faults := longNames()
	for _, x := range nameFaults {
		faults[x.data] = x.e
	}
	for data, e := range faults {
		for _, behind := range []string{"", section(5, "aaaaaa"), section(0, "\x01a"), strings.Repeat("\x00\x01\x00", 9)} {
			b := module(section(0, data), behind)
			if e == api.OK {
				splitHeld(t, b)
				if l, e := Split(b); len(l) == 0 || string(l[0].Data) != data || e != api.OK {
					t.Errorf("Split(%v) = %v, %d", b, l, e)
				}
			} else {
				splitFails(t, b, e)
				splitFails(t, module(section(2, "q"), section(0, data), behind), e)
			}
		}
		splitIs(t, module(section(1, data)), Sect{1, []byte(data)})
		joinHeld(t, []Sect{{0, []byte(data)}})
		joinHeld(t, []Sect{{11, []byte(data)}, {0, []byte(data)}, {0, []byte(data)}})
		if e != api.OK {
			joinFails(t, api.ErrArg, Sect{0, []byte(data)})
			joinFails(t, api.ErrArg, Sect{0, []byte{0}}, Sect{1, nil}, Sect{0, []byte(data)})
		}
	}
}

// P7.1: where two errors apply, it is the first one of the chapter's order.
func TestSplitOrderOfErrors(t *testing.T) {
	for _, x := range []struct {
		s string
		e api.Errno
	}{
		{"\x0c\x80\x80\x80\x80\x80", api.ErrForm}, {"\x0c", api.ErrForm}, {"\x0c\x05a", api.ErrForm},
		{"\x02\x00\x01", api.ErrShort}, {"\x02\x00\x01\x80", api.ErrShort}, {"\x02\x00\x01\x02a", api.ErrShort}, // falls, but is cut off
		{"\x02\x00\x02", api.ErrShort}, {"\x02\x00\x02\x01", api.ErrShort},
		{"\x02\x00\x01\x00\x01", api.ErrForm}, {"\x02\x00\x02\x00\x0c", api.ErrForm}, // falls, and behind it is more
		{"\x02\x00\x01\x00\x03\x05", api.ErrForm},
		{"\x00\x05\x02", api.ErrShort}, {"\x00\x03\x01\xff", api.ErrShort}, {"\x00\x02\x01\xff\x0c", api.ErrForm}, // cut off ahead of the name
		{"\x00\x01\x01\x0c", api.ErrShort}, {"\x00\x00\x0c", api.ErrShort}, // the name ahead of the next ID
		{"\x02\x00\x00\x02\x02a\x01\x00", api.ErrShort}, {"\x02\x00\x01\x00\x00\x01\x01", api.ErrForm},
		{"\x01\x00\x0c\x01\x00", api.ErrForm}, {"\x01\x01\x0c\x0c", api.ErrForm},
		{"\x02\x00\x01\x80\x80\x80\x80\x10", api.ErrForm}, {"\x01\x80\x80\x80\x80\x80", api.ErrForm},
		{"\x00\x42\x41" + strings.Repeat("a", 65) + "\x0c", api.ErrLimit}, {"\x00\x43\x41" + strings.Repeat("a", 65), api.ErrShort},
		{"\x00\x42\x41" + strings.Repeat("\xff", 65), api.ErrLimit},
	} {
		splitFails(t, module(x.s), x.e)
	}
	wrong := module("\x01")
	wrong[0] = 1
	splitFails(t, wrong, api.ErrForm)
	splitFails(t, wrong[:7], api.ErrShort)
}

// everyBytes calls f with all lots of these bytes, of up to n.
func everyBytes(from []byte, n int, f func(string)) {
	var b []byte
	var more func()
	more = func() {
		f(string(b))
		if len(b) == n {
			return
		}
		for _, c := range from {
			b = append(b, c)
			more()
			b = b[:len(b)-1]
		}
	}
	more()
}

// P7.1, P7.4: all short lots of bytes that mean something, held against the words.
func TestSplitOfAllShort(t *testing.T) {
	everyBytes([]byte{0, 1, 2, 11, 12, 97, 128, 255}, 5, func(s string) { splitHeld(t, module(s)) })
	everyBytes([]byte{0, 1, 2, 3}, 8, func(s string) { splitHeld(t, module(s)) })
	everyBytes([]byte{0, 1, 128, 16}, 6, func(s string) { splitHeld(t, module("\x01\x80\x80", s)) })
	for a := range 256 {
		for c := range 256 {
			splitHeld(t, module(string([]byte{byte(a), byte(c)})))
			splitHeld(t, module("\x03\x00", string([]byte{byte(a), 1, byte(c)})))
			splitHeld(t, module("\x00\x03\x02", string([]byte{byte(a), byte(c)})))
			splitHeld(t, module("\x01\xff\xff\xff", string([]byte{byte(a), byte(c)})))
			splitHeld(t, module("\x00\x02", string([]byte{byte(a), byte(c)}), "\x01\x00"))
		}
	}
}

// P7.2: what is joined are the eight bytes, and all sections.
func TestJoin(t *testing.T) {
	for _, l := range [][]Sect{nil, {}} {
		if b, e := Join(l); !bytes.Equal(b, start) || e != api.OK {
			t.Errorf("Join(%v) = %v, %d", l, b, e)
		}
	}
	long := bytes.Repeat([]byte{9}, 128)
	l := []Sect{{0, []byte("\x01n..")}, {1, []byte("a")}, {0, []byte{0}}, {0, []byte{0, 5}}, {9, nil}, {10, []byte{}}, {11, long}, {0, []byte("\x02\xc3\xa9")}}
	want := module("\x00\x04\x01n..", "\x01\x01a", "\x00\x01\x00", "\x00\x02\x00\x05", "\x09\x00", "\x0a\x00", "\x0b\x80\x01"+string(long), "\x00\x03\x02\xc3\xa9")
	if b, e := Join(l); !bytes.Equal(b, want) || e != api.OK {
		t.Errorf("Join(%v) = %v, %d; want %v", l, b, e, want)
	}
	joinHeld(t, l)
	for id := range 14 {
		joinHeld(t, []Sect{{id - 1, []byte{0, 1}}})
	}
	for _, n := range []int{0, 1, 63, 64, 127, 128, 129, 255, 256, 16383, 16384, 16385, 65000} {
		joinHeld(t, []Sect{{7, make([]byte, n)}})
		joinHeld(t, []Sect{{0, make([]byte, n)}, {7, nil}})
	}
}

// P7.2: IDs that may not be.
func TestJoinOfWrongIDs(t *testing.T) {
	for _, id := range []int{-1, -2, -11, -256, -255, math.MinInt, math.MinInt + 1, math.MinInt32, 12, 13, 127, 128, 255, 256, 257, 267, 1 << 32, 1<<32 + 1, -1<<32 + 1, math.MaxInt32, math.MaxInt - 1, math.MaxInt} {
		for _, data := range [][]byte{nil, {0}, {1, 'a'}, {255}} {
			s := Sect{id, data}
			joinFails(t, api.ErrArg, s)
			joinFails(t, api.ErrArg, Sect{0, []byte{0}}, s)
			joinFails(t, api.ErrArg, s, Sect{0, []byte{0}})
			joinFails(t, api.ErrArg, Sect{1, nil}, s)
			joinFails(t, api.ErrArg, s, Sect{1, nil})
			joinFails(t, api.ErrArg, s, Sect{11, nil})
			joinFails(t, api.ErrArg, Sect{1, nil}, s, Sect{2, nil})
		}
	}
}

// P7.2: 65536 bytes may be, one more may not; but what is no argument is told ahead of that.
func TestJoinOfManyBytes(t *testing.T) {
	full := make([]byte, 65524)
	over := make([]byte, 65525)
	for id := range 12 {
		if b, e := Join([]Sect{{id, full}}); len(b) != 65536 || e != api.OK {
			t.Errorf("of the ID %d: %d bytes, %d", id, len(b), e)
		}
		joinHeld(t, []Sect{{id, full}})
		joinFails(t, api.ErrLimit, Sect{id, over})
	}
	joinFails(t, api.ErrLimit, Sect{1, full}, Sect{2, nil})
	joinFails(t, api.ErrLimit, Sect{1, nil}, Sect{2, full})
	joinFails(t, api.ErrLimit, Sect{1, full}, Sect{0, []byte{0}})
	joinFails(t, api.ErrLimit, Sect{1, make([]byte, 1<<20)})
	joinFails(t, api.ErrLimit, Sect{0, make([]byte, 65536)}, Sect{0, make([]byte, 65536)})
	for _, wrong := range []Sect{{12, nil}, {-1, nil}, {1, nil}, {0, nil}, {0, []byte{1}}, {0, []byte{1, 255}}, {0, append([]byte{65}, make([]byte, 65)...)}} {
		joinFails(t, api.ErrArg, Sect{1, over}, wrong)
		joinFails(t, api.ErrArg, Sect{1, nil}, Sect{2, over}, Sect{3, over}, wrong)
		if wrong.ID != 1 {
			joinFails(t, api.ErrArg, wrong, Sect{1, over})
		}
	}
	joinFails(t, api.ErrArg, Sect{2, over}, Sect{1, over})
	joinFails(t, api.ErrArg, Sect{2, over}, Sect{2, over})
	// Two that need just 65536 together, and one byte more of each.
	a, c := make([]byte, 30000), make([]byte, 35520)
	joinHeld(t, []Sect{{1, a}, {2, c}})
	if b, e := Join([]Sect{{1, a}, {2, c}}); len(b) != 65536 || e != api.OK {
		t.Errorf("two of them: %d bytes, %d", len(b), e)
	}
	joinFails(t, api.ErrLimit, Sect{1, a}, Sect{2, append(c, 0)})
	joinFails(t, api.ErrLimit, Sect{1, append(a, 0)}, Sect{2, c})
	// As many as may be of three bytes each, and one more.
	many := slices.Repeat([]Sect{{0, []byte{0}}}, (65536-8)/3)
	if b, e := Join(many); len(b) != 65534 || e != api.OK {
		t.Errorf("%d of them: %d bytes, %d", len(many), len(b), e)
	}
	if b, e := Join(append(many, Sect{0, []byte{0}})); len(b) != 0 || e != api.ErrLimit {
		t.Errorf("one more: %d bytes, %d", len(b), e)
	}
	if b, e := Join(append(many, Sect{0, nil})); len(b) != 0 || e != api.ErrArg {
		t.Errorf("one more, without a name: %d bytes, %d", len(b), e)
	}
}

// P7.4: all short lists of sections are joined as the words say, and split again.
func TestJoinOfAllShort(t *testing.T) {
	kinds := []Sect{{-1, nil}, {0, nil}, {0, []byte{0}}, {0, []byte("\x01n\xff")}, {0, []byte("\x01")}, {1, nil}, {1, []byte("x")}, {2, []byte{}}, {10, []byte("\x80")}, {11, nil}, {12, nil}}
	var l []Sect
	var more func()
	more = func() {
		joinHeld(t, l)
		if len(l) == 4 {
			return
		}
		for _, s := range kinds {
			l = append(l, s)
			more()
			l = l[:len(l)-1]
		}
	}
	more()
}

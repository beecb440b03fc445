package utf

import (
	"bytes"
	"math"
	"slices"
	"strings"
	"testing"

	"avocet/api"
)

// edges are where a number needs a byte more, where the gap is, where all ends, and both sides of these.
var edges = []struct {
	v int
	b string // empty where no text has the number
}{
	{0, "\x00"}, {1, "\x01"}, {97, "a"}, {126, "\x7e"}, {127, "\x7f"},
	{128, "\xc2\x80"}, {129, "\xc2\x81"}, {233, "\xc3\xa9"}, {2046, "\xdf\xbe"}, {2047, "\xdf\xbf"},
	{2048, "\xe0\xa0\x80"}, {2049, "\xe0\xa0\x81"}, {4095, "\xe0\xbf\xbf"}, {4096, "\xe1\x80\x80"}, {8364, "\xe2\x82\xac"},
	{53247, "\xec\xbf\xbf"}, {53248, "\xed\x80\x80"}, {55294, "\xed\x9f\xbe"}, {55295, "\xed\x9f\xbf"},
	{55296, ""}, {55297, ""}, {56319, ""}, {56320, ""}, {57342, ""}, {57343, ""},
	{57344, "\xee\x80\x80"}, {57345, "\xee\x80\x81"}, {65279, "\xef\xbb\xbf"},
	{65532, "\xef\xbf\xbc"}, {65533, "\xef\xbf\xbd"}, {65534, "\xef\xbf\xbe"}, {65535, "\xef\xbf\xbf"},
	{65536, "\xf0\x90\x80\x80"}, {65537, "\xf0\x90\x80\x81"}, {262143, "\xf0\xbf\xbf\xbf"}, {262144, "\xf1\x80\x80\x80"},
	{1048575, "\xf3\xbf\xbf\xbf"}, {1048576, "\xf4\x80\x80\x80"}, {1114110, "\xf4\x8f\xbf\xbe"}, {1114111, "\xf4\x8f\xbf\xbf"},
	{1114112, ""}, {1114113, ""}, {2097151, ""}, {2097152, ""},
	{-1, ""}, {-2, ""}, {-97, ""}, {-65533, ""}, {math.MinInt32, ""}, {math.MaxInt32, ""}, {math.MaxUint32, ""},
	{1<<32 + 97, ""}, {-1<<32 + 97, ""}, {1<<32 + 65533, ""}, {1<<40 + 8364, ""}, {1 << 40, ""}, {1<<63 - 1, ""}, {-1 << 63, ""}, {-1<<63 + 97, ""},
}

// wrongs are bytes that are no text.
var wrongs = []string{
	"\x80", "\x81", "\xbf", "\x80\x80", "\x80a", "\xbf\xbf\xbf", // what only follows
	"\xc0", "\xc0\x80", "\xc0\xaf", "\xc0\xbf", "\xc1", "\xc1\x80", "\xc1\xbf", // two for one
	"\xe0\x80\x80", "\xe0\x80\xaf", "\xe0\x81\xbf", "\xe0\x82\x80", "\xe0\x9f\xbf", // three for fewer
	"\xf0\x80\x80\x80", "\xf0\x80\x81\xbf", "\xf0\x80\x9f\xbf", "\xf0\x82\x82\xac", "\xf0\x8f\xbf\xbf", // four for fewer
	"\xed\xa0\x80", "\xed\xad\xbf", "\xed\xae\x80", "\xed\xb0\x80", "\xed\xbf\xbf", "\xed\xa0\x80\xed\xb0\x80", // the gap
	"\xf4\x90\x80\x80", "\xf4\xbf\xbf\xbf", "\xf5\x80\x80\x80", "\xf7\xbf\xbf\xbf", // beyond the end
	"\xf8\x88\x80\x80\x80", "\xfb\xbf\xbf\xbf\xbf", "\xfc\x84\x80\x80\x80\x80", "\xfd\xbf\xbf\xbf\xbf\xbf", "\xfe", "\xff", "\xff\xfe", "\xfe\xff",
	"\xc2", "\xdf", "\xe2", "\xe2\x82", "\xed\x9f", "\xef\xbf", "\xf0", "\xf0\x90", "\xf0\x90\x80", "\xf4\x8f\xbf", // cut short
	"\xc2a", "\xe2\x82a", "\xe2a\xac", "\xf0\x90\x80a", "\xf0\x90a\x80", "\xf0a\x80\x80", // followed by what doesn't follow
	"\xc2\xc2\x80", "\xe2\xe2\x82\xac", "\xe2\x82\xe2\x82\xac", "\xc2\x7f", "\xc2\xc0", "\xc2\x80\x80", "\xe2\x82\xac\x80", "a\xff", "\xffa", "a\x80b",
	"\xef\xbf\xbd\xff", "\xff\xef\xbf\xbd", "\xef\xbf\xbd\xef\xbf", "\xef\xbf\xbd\xbd",
}

// oneWhole is the number that stands at the start of b, and of how many bytes it is, as P3.1's sums tell it; false, if there is none.
func oneWhole(b []byte) (int, int, bool) {
	follows := func(k int) (int, bool) {
		if k >= len(b) || b[k] < 128 || b[k] > 191 {
			return 0, false
		}
		return int(b[k]) - 128, true
	}
	c := int(b[0])
	b1, ok1 := follows(1)
	b2, ok2 := follows(2)
	b3, ok3 := follows(3)
	switch {
	case c < 128:
		return c, 1, true
	case c >= 192+2 && c <= 192+31 && ok1:
		return 64*(c-192) + b1, 2, true
	case c >= 224 && c < 240 && ok1 && ok2:
		v := 4096*(c-224) + 64*b1 + b2
		return v, 3, v >= 2048 && !(v >= 55296 && v <= 57343)
	case c >= 240 && ok1 && ok2 && ok3:
		v := 262144*(c-240) + 4096*b1 + 64*b2 + b3
		return v, 4, v >= 65536 && v <= 1114111
	}
	return 0, 0, false
}

// runesBySums are Runes, by oneWhole.
func runesBySums(b []byte) ([]int, bool) {
	var l []int
	for len(b) > 0 {
		v, n, ok := oneWhole(b)
		if !ok {
			return nil, false
		}
		l = append(l, v)
		b = b[n:]
	}
	return l, true
}

// compare holds Runes, Valid, and FromRunes of what was read, against runesBySums.
func compare(t *testing.T, b []byte) {
	t.Helper()
	want, text := runesBySums(b)
	l, ok := Runes(b)
	if !slices.Equal(l, want) || ok != text {
		t.Errorf("Runes(%x) = %v, %v; want %v, %v", b, l, ok, want, text)
	}
	if Valid(b) != text {
		t.Errorf("Valid(%x) = %v, want %v", b, !text, text)
	}
	if !text {
		return
	}
	if again, ok := FromRunes(l); !ok || !bytes.Equal(again, b) {
		t.Errorf("FromRunes(%v) = %x, %v; want %x", l, again, ok, b)
	}
}

// isNothing tells whether a false came with anything else.
func isNothing[T any](l []T, ok bool) bool { return len(l) == 0 && !ok }

// P3.1, P3.2: each edge there and back.
func TestEdges(t *testing.T) {
	for _, x := range edges {
		b, ok := FromRunes([]int{x.v})
		if x.b == "" {
			if !isNothing(b, ok) {
				t.Errorf("FromRunes(%d) = %x, %v; no text has it", x.v, b, ok)
			}
			continue
		}
		if string(b) != x.b || !ok {
			t.Errorf("FromRunes(%d) = %x, %v; want %x", x.v, b, ok, x.b)
		}
		if l, ok := Runes([]byte(x.b)); !slices.Equal(l, []int{x.v}) || !ok {
			t.Errorf("Runes(%x) = %v, %v; want %d", x.b, l, ok, x.v)
		}
		if !Valid([]byte(x.b)) {
			t.Errorf("Valid(%x) = false", x.b)
		}
	}
}

// P3.1: no bytes and nil are a text without numbers, P3.2: and back.
func TestNothing(t *testing.T) {
	for _, b := range [][]byte{nil, {}} {
		if l, ok := Runes(b); len(l) != 0 || !ok || !Valid(b) {
			t.Errorf("Runes of no bytes = %v, %v; Valid = %v", l, ok, Valid(b))
		}
	}
	for _, l := range [][]int{nil, {}} {
		if b, ok := FromRunes(l); len(b) != 0 || !ok {
			t.Errorf("FromRunes of no numbers = %x, %v", b, ok)
		}
	}
}

// P3.1: what is no text is none alone, behind one, and ahead of one.
func TestNoText(t *testing.T) {
	for _, s := range wrongs {
		for _, b := range [][]byte{[]byte(s), []byte("a\xe2\x82\xac" + s), []byte(s + "a"), []byte("\xef\xbf\xbd" + s + "\xef\xbf\xbd")} {
			if l, ok := Runes(b); !isNothing(l, ok) {
				t.Errorf("Runes(%x) = %v, %v of no text", b, l, ok)
			}
			if Valid(b) {
				t.Errorf("Valid(%x) = true of no text", b)
			}
		}
	}
	for c := 128; c < 256; c++ {
		if b := []byte{byte(c)}; Valid(b) {
			t.Errorf("Valid(%x) = true", b)
		}
		for _, first := range []int{192, 193, 245, 246, 247, 248, 251, 252, 253, 254, 255} {
			for n := range 6 {
				if b := append([]byte{byte(first)}, bytes.Repeat([]byte{byte(c)}, n)...); Valid(b) {
					t.Errorf("Valid(%x) = true", b)
				}
			}
		}
	}
}

// P3.2, P3.4: every number that a text may have, and those around, one by one.
func TestEveryNumber(t *testing.T) {
	for v := -70000; v < 1114112+70000; v++ {
		b, ok := FromRunes([]int{v})
		if v < 0 || v >= 55296 && v <= 57343 || v > 1114111 {
			if !isNothing(b, ok) {
				t.Errorf("FromRunes(%d) = %x, %v; no text has it", v, b, ok)
			}
			continue
		}
		if got, n, whole := oneWhole(append(b, 0)); !ok || !whole || got != v || n != len(b) {
			t.Errorf("FromRunes(%d) = %x, %v, which is %d, %v", v, b, ok, got, whole)
		}
		if l, ok := Runes(b); !slices.Equal(l, []int{v}) || !ok {
			t.Errorf("Runes(%x) = %v, %v; want %d", b, l, ok, v)
		}
	}
}

// P3.1, P3.4: all bytes by one and by two, and with a third and a fourth one of the edges of what bytes mean.
func TestEveryLotOfBytes(t *testing.T) {
	marks := []byte{0, 97, 127, 128, 129, 143, 144, 159, 160, 189, 191, 192, 193, 194, 223, 224, 225, 237, 239, 240, 244, 245, 248, 255}
	for first := range 256 {
		compare(t, []byte{byte(first)})
		for second := range 256 {
			b := []byte{byte(first), byte(second)}
			compare(t, b)
			for _, third := range marks {
				compare(t, []byte{b[0], b[1], third})
				if first < 224 && !slices.Contains(marks, b[1]) {
					continue
				}
				for _, fourth := range marks {
					compare(t, []byte{b[0], b[1], third, fourth})
				}
			}
		}
	}
}

// P3.1, P3.2, P3.4: texts one behind the other, and cut at each place.
func TestTextsInARowAndCut(t *testing.T) {
	var whole []byte
	var numbers []int
	ends := map[int]int{0: 0} // how many numbers lie ahead of a place
	for _, x := range slices.Concat(edges, edges) {
		if x.b != "" {
			whole = append(whole, x.b...)
			numbers = append(numbers, x.v)
			ends[len(whole)] = len(numbers)
		}
	}
	if b, ok := FromRunes(numbers); !bytes.Equal(b, whole) || !ok {
		t.Errorf("FromRunes of all edges = %x, %v; want %x", b, ok, whole)
	}
	for cut := range len(whole) + 1 {
		ahead, ok := Runes(whole[:cut])
		n, between := ends[cut]
		if ok != between || !slices.Equal(ahead, numbers[:n]) || Valid(whole[:cut]) != between {
			t.Errorf("Runes of %d bytes = %v, %v; want %v, %v", cut, ahead, ok, numbers[:n], between)
		}
		behind, ok := Runes(whole[cut:])
		want := numbers[n:]
		if !between {
			want = nil
		}
		if ok != between || !slices.Equal(behind, want) || Valid(whole[cut:]) != between {
			t.Errorf("Runes from %d on = %v, %v; want %v, %v", cut, behind, ok, want, between)
		}
	}
}

// P3.2: one number that no text has spoils all, wherever it stands.
func TestOneWrongNumberAmongOthers(t *testing.T) {
	for _, x := range edges {
		for _, l := range [][]int{{x.v, 97}, {97, x.v}, {97, x.v, 8364}, {1114111, 0, x.v}} {
			b, ok := FromRunes(l)
			if x.b == "" && !isNothing(b, ok) {
				t.Errorf("FromRunes(%v) = %x, %v", l, b, ok)
			}
			if got, text := runesBySums(b); x.b != "" && !(ok && text && slices.Equal(got, l)) {
				t.Errorf("FromRunes(%v) = %x, %v", l, b, ok)
			}
		}
	}
}

// P3.3
func TestName(t *testing.T) {
	as := func(n int) string { return strings.Repeat("a", n) }
	euros := strings.Repeat("\xe2\x82\xac", 21)
	for _, x := range []struct {
		b      string
		at     int
		s      string
		behind int
		e      api.Errno
	}{
		{"\x00", 0, "", 1, api.OK}, {"\x00\xff", 0, "", 1, api.OK}, {"xx\x00", 2, "", 3, api.OK}, {"\x80\x80\x80\x80\x00", 0, "", 5, api.OK},
		{"\x02abc", 0, "ab", 3, api.OK}, {"\x02ab", 0, "ab", 3, api.OK}, {"\xff\x02abc\xff", 1, "ab", 4, api.OK}, {"\x82\x00ab", 0, "ab", 4, api.OK},
		{"\x82\x80\x80\x80\x00ab", 0, "ab", 7, api.OK}, {"\x03\xe2\x82\xac", 0, "\xe2\x82\xac", 4, api.OK}, {"\x03\xef\xbf\xbd", 0, "\xef\xbf\xbd", 4, api.OK},
		{"\x3f" + as(63), 0, as(63), 64, api.OK}, {"\x40" + as(64), 0, as(64), 65, api.OK}, {"\x40" + as(65), 0, as(64), 65, api.OK}, {"\x40" + euros + "b", 0, euros + "b", 65, api.OK},
		{"\x01\x00", 0, "\x00", 2, api.OK}, {"\x04\xf4\x8f\xbf\xbf", 0, "\xf4\x8f\xbf\xbf", 5, api.OK},
		{"\x01a", -1, "", 0, api.ErrArg}, {"\x01a", 3, "", 0, api.ErrArg}, {"\x01a", math.MinInt, "", 0, api.ErrArg}, {"\x01a", math.MaxInt, "", 0, api.ErrArg},
		{"", -1, "", 0, api.ErrArg}, {"", 1, "", 0, api.ErrArg},
		{"", 0, "", 0, api.ErrShort}, {"\x01a", 2, "", 0, api.ErrShort}, {"\x80", 0, "", 0, api.ErrShort}, {"\xff\xff\xff\xff", 0, "", 0, api.ErrShort},
		{"\x80\x80\x80\x80\x80\x00", 0, "", 0, api.ErrForm}, {"\xff\xff\xff\xff\x10", 0, "", 0, api.ErrForm}, {"\xff\xff\xff\xff\x80", 0, "", 0, api.ErrForm},
		{"\x01", 0, "", 0, api.ErrShort}, {"\x03ab", 0, "", 0, api.ErrShort}, {"ab\x01", 2, "", 0, api.ErrShort}, {"\x40" + as(63), 0, "", 0, api.ErrShort},
		{"\x03\xff\xff", 0, "", 0, api.ErrShort}, {"\x41" + as(64), 0, "", 0, api.ErrShort}, {"\xff\xff\xff\xff\x0f" + as(70), 0, "", 0, api.ErrShort}, {"\x80\x80\x80\x80\x08a", 0, "", 0, api.ErrShort},
		{"\x41" + as(65), 0, "", 0, api.ErrLimit}, {"\x41" + as(66), 0, "", 0, api.ErrLimit}, {"\x41" + as(64) + "\xff", 0, "", 0, api.ErrLimit}, {"\x42" + euros + "\xe2\x82\xac", 0, "", 0, api.ErrLimit},
		{"\x80\x02" + as(256), 0, "", 0, api.ErrLimit},
		{"\x01\xff", 0, "", 0, api.ErrForm}, {"\x40" + as(63) + "\xff", 0, "", 0, api.ErrForm}, {"\x02\xe2\x82\xac", 0, "", 0, api.ErrForm}, {"\x02a\xc2\x80", 0, "", 0, api.ErrForm},
		{"\x03\xe2\x82\xac", 1, "", 0, api.ErrShort}, {"\x01\x80", 0, "", 0, api.ErrForm},
	} {
		if s, behind, e := Name([]byte(x.b), x.at); s != x.s || behind != x.behind || e != x.e {
			t.Errorf("Name(%x, %d) = %q, %d, %d; want %q, %d, %d", x.b, x.at, s, behind, e, x.s, x.behind, x.e)
		}
	}
	for _, s := range wrongs {
		if name, behind, e := Name([]byte("\x09"+s+strings.Repeat("b", 9-len(s))), 0); name != "" || behind != 0 || e != api.ErrForm {
			t.Errorf("Name of %x = %q, %d, %d", s, name, behind, e)
		}
	}
	if s, behind, e := Name(nil, 0); s != "" || behind != 0 || e != api.ErrShort {
		t.Errorf("Name(nil, 0) = %q, %d, %d", s, behind, e)
	}
}

// P3.3
func TestLay(t *testing.T) {
	as := func(n int) string { return strings.Repeat("a", n) }
	euros := strings.Repeat("\xe2\x82\xac", 21)
	for _, ahead := range []string{"", "\x09", "\xff\x80\x00", as(200)} {
		for _, s := range []string{"", "a", "\x00", "ab", "\xe2\x82\xac", "\xef\xbf\xbd", "\xf4\x8f\xbf\xbf", as(63), as(64), euros + "b"} {
			want := ahead + string(rune(len(s))) + s
			if b, e := Lay([]byte(ahead), s); string(b) != want || e != api.OK {
				t.Errorf("Lay(%x, %q) = %x, %d; want %x", ahead, s, b, e, want)
			}
		}
		for s, want := range map[string]api.Errno{
			as(65): api.ErrLimit, as(1000): api.ErrLimit, euros + "\xe2\x82\xac": api.ErrLimit, as(64) + "\xff": api.ErrLimit, "\xff" + as(64): api.ErrLimit,
			as(63) + "\xff": api.ErrForm, euros + "\x80": api.ErrForm, "\xff": api.ErrForm,
		} {
			if b, e := Lay([]byte(ahead), s); len(b) != 0 || e != want {
				t.Errorf("Lay(%x, %q) = %x, %d; want %d", ahead, s, b, e, want)
			}
		}
		for _, s := range wrongs {
			if b, e := Lay([]byte(ahead), s); len(b) != 0 || e != api.ErrForm {
				t.Errorf("Lay(%x, %x) = %x, %d", ahead, s, b, e)
			}
		}
	}
	if b, e := Lay(nil, ""); !bytes.Equal(b, []byte{0}) || e != api.OK {
		t.Errorf("Lay(nil, \"\") = %x, %d", b, e)
	}
}

// P3.4: names laid one behind the other are read, and cut at each place the last one is short.
func TestLaidIsRead(t *testing.T) {
	var names []string
	for n := range api.MaxName + 1 {
		names = append(names, strings.Repeat("b", n))
	}
	for _, x := range edges {
		if x.b != "" {
			names = append(names, x.b, x.b+"a", strings.Repeat(x.b, api.MaxName/len(x.b)))
		}
	}
	b := []byte{255}
	for _, s := range names {
		at := len(b)
		laid, e := Lay(b, s)
		if e != api.OK {
			t.Fatalf("Lay of %q = %d", s, e)
		}
		b = laid
		if got, behind, e := Name(b, at); got != s || behind != len(b) || e != api.OK {
			t.Errorf("Name of %q laid = %q, %d, %d; want the place %d", s, got, behind, e, len(b))
		}
		for cut := at; cut < len(b); cut++ {
			if got, behind, e := Name(b[:cut], at); got != "" || behind != 0 || e != api.ErrShort {
				t.Errorf("Name of %q cut at %d of %d = %q, %d, %d", s, cut-at, len(b)-at, got, behind, e)
			}
		}
	}
	at := 1
	for _, s := range names {
		got, behind, e := Name(b, at)
		if got != s || e != api.OK {
			t.Errorf("Name at %d = %q, %d; want %q", at, got, e, s)
		}
		at = behind
	}
	if at != len(b) {
		t.Errorf("the place behind all names is %d, want %d", at, len(b))
	}
}

// P1: any place in any bytes is answered, and with an error come zero values alone.
func TestNameAtAnyPlace(t *testing.T) {
	places := []int{math.MinInt, math.MinInt32, math.MaxInt32, math.MaxInt - 1, math.MaxInt}
	for at := -3; at <= 12; at++ {
		places = append(places, at)
	}
	for _, s := range append(slices.Clone(wrongs), "", "\x00", "\x01\x01\x01", "\x05abcde", "\xff\xff\xff\xff\x0f", "\x80\x80\x80\x80\x80") {
		for _, at := range places {
			name, behind, e := Name([]byte(s), at)
			if e == api.OK && (at < 0 || behind <= at || behind > len(s) || !strings.HasSuffix(s[:behind], name)) {
				t.Errorf("Name(%x, %d) = %q, %d, %d", s, at, name, behind, e)
			}
			if e != api.OK && (name != "" || behind != 0) {
				t.Errorf("Name(%x, %d) = %q, %d beside error %d", s, at, name, behind, e)
			}
			if wrong := at < 0 || at > len(s); wrong != (e == api.ErrArg) {
				t.Errorf("Name(%x, %d) has error %d", s, at, e)
			}
		}
	}
}

// R3: what is handed in stays, also in the room behind it, and no two answers share memory.
func TestArgumentsStay(t *testing.T) {
	room := bytes.Repeat([]byte{77}, 200)
	whole := bytes.Clone(room)
	ahead := whole[:2]
	first, _ := Lay(ahead, "abc")
	second, _ := Lay(ahead, "de")
	first[0] = 1
	if !bytes.Equal(whole, room) {
		t.Errorf("Lay wrote into what was handed in: %x", whole)
	}
	if string(first) != "\x01M\x03abc" || string(second) != "MM\x02de" {
		t.Errorf("answers share memory: %q, %q", first, second)
	}
	for _, s := range append(slices.Clone(wrongs), "\x03a\xe2\x82\xac", "\x02ab") {
		b := []byte(s)
		Valid(b)
		Runes(b)
		Name(b, 0)
		Lay(b, "a")
		Lay(b, s)
		if string(b) != s {
			t.Errorf("%x was changed to %x", s, b)
		}
	}
	numbers := []int{97, 8364, 55296, -1}
	FromRunes(numbers)
	FromRunes(numbers[:2])
	if !slices.Equal(numbers, []int{97, 8364, 55296, -1}) {
		t.Errorf("FromRunes changed what was handed in: %v", numbers)
	}
}

// R3: an answer doesn't change with what was handed in, nor with an answer before.
func TestAnswersAreNew(t *testing.T) {
	b := []byte("\x02ab")
	name, _, _ := Name(b, 0)
	l, _ := Runes(b)
	b[1] = 'x'
	if name != "ab" || !slices.Equal(l, []int{2, 97, 98}) {
		t.Errorf("answers changed with what was handed in: %q, %v", name, l)
	}
	l[0] = 5
	if again, _ := Runes([]byte("\x02ab")); !slices.Equal(again, []int{2, 97, 98}) {
		t.Errorf("Runes = %v behind a change of the answer before", again)
	}
	first, _ := FromRunes([]int{97, 98})
	first[0] = 'x'
	if again, _ := FromRunes([]int{97, 98}); string(again) != "ab" {
		t.Errorf("FromRunes = %q behind a change of the answer before", again)
	}
}

package sect

import (
	"bytes"
	"math"
	"slices"
	"strings"
	"testing"

	"avocet/api"
	"avocet/utf"
)

// P7.3: the first section of an ID, and nothing, where there is none.
func TestFind(t *testing.T) {
	l := []Sect{{0, []byte("\x01a")}, {3, []byte("x")}, {0, []byte("\x01b")}, {4, nil}, {5, []byte{}}, {3, []byte("y")}, {0, nil}}
	for _, x := range []struct {
		id   int
		data string
		ok   bool
	}{{0, "\x01a", true}, {3, "x", true}, {4, "", true}, {5, "", true}, {1, "", false}, {2, "", false}, {6, "", false}, {11, "", false}, {12, "", false}, {-1, "", false}, {255, "", false}, {256, "", false}, {259, "", false}, {1 << 32, "", false}, {1<<32 + 3, "", false}, {-3, "", false}, {math.MinInt, "", false}, {math.MaxInt, "", false}} {
		if d, ok := Find(l, x.id); string(d) != x.data || ok != x.ok {
			t.Errorf("Find(l, %d) = %v, %v; want %q, %v", x.id, d, ok, x.data, x.ok)
		}
		for _, none := range [][]Sect{nil, {}} {
			if d, ok := Find(none, x.id); len(d) != 0 || ok {
				t.Errorf("Find(%v, %d) = %v, %v", none, x.id, d, ok)
			}
		}
	}
}

// P7.3: Find asks just for the ID, also of sections that are none of a module.
func TestFindOfAnyID(t *testing.T) {
	ids := []int{math.MinInt, -256, -1, 0, 1, 11, 12, 255, 256, math.MaxInt}
	var l []Sect
	for k, id := range ids {
		l = append(l, Sect{id, []byte{byte(k)}})
	}
	slices.Reverse(l)
	for _, id := range ids {
		l = append(l, Sect{id, []byte("second")})
	}
	for k, id := range ids {
		if d, ok := Find(l, id); !bytes.Equal(d, []byte{byte(k)}) || !ok {
			t.Errorf("Find(l, %d) = %v, %v; want %d", id, d, ok, k)
		}
	}
}

// P7.3: of what Split tells each ID is found.
func TestFindOfSplit(t *testing.T) {
	l, e := Split(module(section(0, "\x01a."), section(1, ""), section(0, "\x01b"), section(7, "seven"), section(11, "last")))
	if e != api.OK {
		t.Fatal(e)
	}
	for id := -1; id <= 12; id++ {
		want, has := map[int]string{0: "\x01a.", 1: "", 7: "seven", 11: "last"}[id]
		if d, ok := Find(l, id); string(d) != want || ok != has {
			t.Errorf("Find(l, %d) = %v, %v; want %q, %v", id, d, ok, want, has)
		}
	}
}

// P7.3: a section of the ID 0: the name, and data.
func TestCustom(t *testing.T) {
	datas := [][]byte{nil, {}, {0}, {7}, {255, 0}, []byte("\x01n"), bytes.Repeat([]byte{5}, 300)}
	for _, name := range []string{"", "a", "name", "é", "€uro", "\x00", "\uFFFD", strings.Repeat("a", 63), strings.Repeat("a", 64), strings.Repeat("é", 32)} {
		for _, data := range datas {
			want := slices.Concat([]byte{byte(len(name))}, []byte(name), data)
			s, e := Custom(name, data)
			if s.ID != 0 || !bytes.Equal(s.Data, want) || e != api.OK {
				t.Errorf("Custom(%q, %v) = %v, %d; want %v", name, data, s, e, want)
			}
			got, behind, e := utf.Name(s.Data, 0)
			if got != name || e != api.OK || !bytes.Equal(s.Data[behind:], data) {
				t.Errorf("Custom(%q, %v) = %v, in which are %q, %v", name, data, s, got, s.Data[behind:])
			}
			joinHeld(t, []Sect{s, {1, nil}, s})
		}
	}
}

// P7.3: each error of a name.
func TestCustomOfWrongNames(t *testing.T) {
	for _, data := range [][]byte{nil, {}, {1, 'a'}} {
		for _, x := range []struct {
			name string
			e    api.Errno
		}{
			{"\xff", api.ErrForm}, {"a\x80", api.ErrForm}, {"\xc0\x80", api.ErrForm}, {"\xed\xa0\x80", api.ErrForm}, {"\xe2\x82", api.ErrForm}, {strings.Repeat("a", 63) + "\xff", api.ErrForm}, {strings.Repeat("é", 31) + "a\xc3", api.ErrForm},
			{strings.Repeat("a", 65), api.ErrLimit}, {strings.Repeat("a", 1000), api.ErrLimit}, {strings.Repeat("\xff", 65), api.ErrLimit}, {strings.Repeat("é", 33), api.ErrLimit},
		} {
			if s, e := Custom(x.name, data); s.ID != 0 || len(s.Data) != 0 || e != x.e {
				t.Errorf("Custom(%q, %v) = %v, %d; want error %d", x.name, data, s, e, x.e)
			}
		}
	}
}

// P7.3: Custom asks nothing of how long a section is; that is Join's.
func TestCustomOfMuch(t *testing.T) {
	for _, n := range []int{65521, 65522, 65523, 65536, 1 << 20} {
		s, e := Custom("ab", bytes.Repeat([]byte{9}, n))
		if len(s.Data) != n+3 || e != api.OK {
			t.Errorf("of %d bytes: %d, %d", n, len(s.Data), e)
		}
		b, e := Join([]Sect{s})
		if n <= 65521 && (len(b) != n+15 || e != api.OK) || n > 65521 && (len(b) != 0 || e != api.ErrLimit) {
			t.Errorf("of %d bytes, joined: %d, %d", n, len(b), e)
		}
	}
}

// withRoom is b with room behind it, and all of the memory that it lies in.
func withRoom(b string) ([]byte, []byte) {
	all := append([]byte(b), bytes.Repeat([]byte{0xee}, 40)...)
	return all[:len(b)], all
}

// R3: what is handed in isn't changed, also in the room behind it.
func TestNothingHandedInIsChanged(t *testing.T) {
	for _, s := range []string{string(module()), string(module(section(0, "\x01a"), section(4, "abc"))), string(module(section(4, "abc"), "\x01")), string(start[:5]), ""} {
		b, all := withRoom(s)
		kept := bytes.Clone(all)
		l, _ := Split(b)
		for k := range l {
			_ = append(l[k].Data, 1, 2, 3)
			clear(l[k].Data)
		}
		_ = append(l, Sect{})
		if !bytes.Equal(all, kept) {
			t.Errorf("Split of %q changed %v to %v", s, kept, all)
		}
	}
	name, roomOfName := withRoom("\x01nm")
	data, room := withRoom("data")
	sects := []Sect{{0, name}, {1, data}, {0, name}, {2, data}, {99, []byte("behind")}}
	l := sects[:4]
	keptSects, keptName, keptData := copied(sects), bytes.Clone(roomOfName), bytes.Clone(room)
	b, e := Join(l)
	_ = append(b, 1)
	clear(b)
	found, ok := Find(l, 1)
	_ = append(found, 1)
	clear(found)
	c, f := Custom("n", data)
	_ = append(c.Data, 1)
	clear(c.Data)
	if e != api.OK || !ok || f != api.OK {
		t.Error(e, ok, f)
	}
	if !equal(sects, keptSects) || !bytes.Equal(roomOfName, keptName) || !bytes.Equal(room, keptData) {
		t.Errorf("changed: %v, %v, %v", sects, roomOfName, room)
	}
}

// R3: what Split tells is new memory, of each section its own.
func TestSplitIsNewMemory(t *testing.T) {
	b := module(section(0, "\x01a"), section(1, "one"), section(2, "two"))
	l, _ := Split(b)
	again, _ := Split(b)
	want := copied(l)
	clear(b)
	if !equal(l, want) {
		t.Errorf("what was split hangs on the bytes: %v", l)
	}
	for k := range l {
		_ = append(l[k].Data, 255, 255, 255, 255, 255, 255)
	}
	if !equal(l, want) {
		t.Errorf("sections share memory: %v", l)
	}
	clear(l[1].Data)
	if !bytes.Equal(l[2].Data, want[2].Data) || !equal(again, want) {
		t.Errorf("sections, or two answers, share memory: %v, %v", l, again)
	}
}

// R3: what Join, Find and Custom answer shares nothing with what was handed in, nor with another answer.
func TestAnswersAreNewMemory(t *testing.T) {
	data := []byte("data")
	l := []Sect{{1, data}}
	b, _ := Join(l)
	b2, _ := Join(l)
	empty, _ := Join(nil)
	empty2, _ := Join(nil)
	found, _ := Find(l, 1)
	found2, _ := Find(l, 1)
	c, _ := Custom("n", data)
	c2, _ := Custom("n", data)
	clear(data)
	clear(b2)
	clear(empty2)
	clear(found2)
	clear(c2.Data)
	if string(b) != string(module("\x01\x04data")) || !bytes.Equal(empty, start) || string(found) != "data" || string(c.Data) != "\x01ndata" {
		t.Errorf("answers share memory: %v, %v, %v, %v", b, empty, found, c)
	}
	if again, _ := Join(nil); !bytes.Equal(again, start) {
		t.Errorf("Join keeps what it answered: %v", again)
	}
}

// What is answered hangs on nothing that was asked before: also after errors.
func TestNothingIsKept(t *testing.T) {
	good := module(section(3, "abc"), section(0, "\x01n"))
	first, _ := Split(good)
	want := copied(first)
	for _, b := range [][]byte{module(section(9, "later")), module("\x0c"), nil, module(section(2, "")), good} {
		_, _ = Split(b)
		_, _ = Join([]Sect{{5, b}})
		_, _ = Join([]Sect{{12, b}})
		_, _ = Find([]Sect{{3, b}}, 3)
		_, _ = Custom("n", b)
		_, _ = Custom("\xff", b)
	}
	again, e := Split(good)
	if !equal(first, want) || !equal(again, want) || e != api.OK {
		t.Errorf("%v, %v, %d; want %v", first, again, e, want)
	}
}

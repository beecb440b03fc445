package valid

import (
	"reflect"
	"slices"
	"strings"
	"testing"

	"avocet/api"
	"avocet/module"
)

const start8 = "\x00asm\x01\x00\x00\x00"

// encoded is the bytes of a module that is Sane.
func encoded(t *testing.T, m api.Module) []byte {
	t.Helper()
	b, e := module.Encode(m)
	if e != api.OK {
		t.Fatalf("Encode(%s): %d", short(m), e)
	}
	return b
}

// refused asks that Load tells nothing of bytes but why.
func refused(t *testing.T, b []byte, right api.Errno) {
	t.Helper()
	if m, e := loads(t, b); e != right || m.Start != 0 || !equal(m, api.Module{}) {
		t.Errorf("Load(%s) = %s, %d; want %d", short(b), short(m), e, right)
	}
}

// P11.3: what module.Decode refuses is refused with its error.
func TestLoadOfWhatIsNotRead(t *testing.T) {
	for _, x := range []struct {
		b string
		e api.Errno
	}{
		{"", api.ErrShort}, {start8[:7], api.ErrShort}, {"\x00asm\x02\x00\x00\x00", api.ErrForm}, {start8 + "\x0c\x00", api.ErrForm}, {start8 + "\x01\x01\x41", api.ErrLimit}, {start8 + "\x03\x02\x01\x00", api.ErrForm},
		{start8 + "\x06\x05\x01\x7f\x00\x01\x0b", api.ErrType}, {start8 + "\x0b\x01\x01", api.ErrShort}, {start8 + strings.Repeat("\x00\x01\x00", 30000), api.ErrLimit},
		{start8 + "\x02\x05\x01\x00\x00\x00\x07" + "\x01\x01\x00", api.ErrForm},                                                  // an import of no type, and sections out of order
		{start8 + "\x02\x05\x01\x00\x00\x00\x07" + "\x0b\x04\x01\x01", api.ErrShort}, {start8 + "\x08\x02\x00\x00", api.ErrForm}, // a start of nothing, and a byte more
	} {
		if _, e := module.Decode([]byte(x.b)); e != x.e {
			t.Errorf("Decode(%q) = %d; want %d", x.b, e, x.e)
		}
		refused(t, []byte(x.b), x.e)
	}
}

// P11.3: what is read but not valid is refused with Valid's error.
func TestLoadOfWhatIsNotValid(t *testing.T) {
	for _, x := range spoils()[1:] {
		m := full()
		x.do(&m)
		refused(t, encoded(t, m), x.e)
	}
	for _, x := range []struct {
		b string
		e api.Errno
	}{
		{"\x02\x05\x01\x00\x00\x00\x07", api.ErrName}, {"\x03\x02\x01\x00\x0a\x04\x01\x02\x00\x0b", api.ErrName}, {"\x04\x05\x01\x70\x01\x02\x01", api.ErrType}, {"\x05\x03\x01\x00\x05", api.ErrLimit}, {"\x05\x05\x02\x00\x00\x00\x00", api.ErrType},
		{"\x06\x06\x01\x7f\x00\x42\x00\x0b", api.ErrType}, {"\x07\x04\x01\x00\x02\x00", api.ErrName}, {"\x08\x01\x00", api.ErrName}, {"\x09\x06\x01\x00\x41\x00\x0b\x00", api.ErrName}, {"\x0b\x06\x01\x00\x41\x00\x0b\x00", api.ErrName},
	} {
		refused(t, []byte(start8+x.b), x.e)
	}
}

// P11.3, P11.4: what is valid is loaded, and, encoded, loaded again the same.
func TestLoadOfWhatIsValid(t *testing.T) {
	for _, of := range []func() api.Module{full, other, func() api.Module { return api.Module{Start: -1} }} {
		m, e := loads(t, encoded(t, of()))
		if e != api.OK || !equal(m, of()) {
			t.Errorf("%s, %d; want %s", short(m), e, short(of()))
		}
	}
	long := start8 + "\x00\x02\x01a" + "\x01\x87\x80\x00" + "\x81\x00\x60\x81\x00\x7f\x00" + "\x00\x03\x01bc" + "\x03\x02\x01\x00" + "\x05\x04\x01\x00\x81\x00" + "\x07\x01\x00" + "\x0a\x08\x01\x06\x02\x01\x7e\x01\x7e\x0b"
	m, e := loads(t, []byte(long)) // numbers that could be shorter, sections that say nothing, runs that are one
	right := api.Module{Types: []api.FuncType{fn("i", "")}, Funcs: []int{0}, Mems: []api.Limits{{Min: 1}}, Codes: []api.Code{{Locals: vals("ll")}}, Start: -1}
	if e != api.OK || !equal(m, right) || len(encoded(t, m)) >= len(long) {
		t.Errorf("%s, %d; want %s", short(m), e, short(right))
	}
}

// P11.3, P11.4: bytes of modules that are valid, with one of them changed, left out or there twice, or the last ones missing.
func TestLoadOfChangedBytes(t *testing.T) {
	var told [9]int
	tell := func(b []byte) {
		_, e := loads(t, b)
		told[e]++
	}
	for _, of := range []func() api.Module{full, other} {
		b := encoded(t, of())
		for k := range b {
			tell(b[:k])
			tell(slices.Concat(b[:k], b[k+1:]))
			tell(slices.Concat(b[:k], b[k:k+1], b[k:]))
			for v := range 256 {
				x := slices.Clone(b)
				x[k] = byte(v)
				tell(x)
			}
		}
	}
	for _, e := range []api.Errno{api.OK, api.ErrShort, api.ErrForm, api.ErrLimit, api.ErrType, api.ErrName} {
		if told[e] < 500 {
			t.Errorf("just %d of them were %d", told[e], e)
		}
	}
}

// lot is a row of numbers that look as if drawn by lot, the same each time.
type lot uint64

func (n *lot) below(most int) int {
	*n = *n*6364136223846793005 + 1442695040888963407
	return int(uint64(*n)>>33) % most
}

// draw is one of these.
func draw[T any](n *lot, of ...T) T { return of[n.below(len(of))] }

// change makes something else of one part of a value, that is drawn by lot.
func (n *lot) change(v reflect.Value) {
	switch v.Kind() {
	case reflect.Struct:
		n.change(v.Field(n.below(v.NumField())))
	case reflect.Slice:
		n.changeList(v)
	case reflect.Int:
		v.SetInt(int64(draw(n, 0, 0, 1, 1, 2, 3, 4, 5, 6, 7, 256, 257, 65536, 65537, -1, int(v.Int())+1, int(v.Int())-1)))
	case reflect.Uint8:
		v.SetUint(uint64(draw(n, 127, 126, 127, 126, 0, int(v.Uint())+1)))
	case reflect.Uint64:
		v.SetUint(draw(n, uint64(0), 1, 1<<32-1, 1<<32, 1<<64-1))
	case reflect.Bool:
		v.SetBool(!v.Bool())
	case reflect.String:
		v.SetString(draw(n, "", "run", "m", "tab", "é", "\xff"))
	}
}

// changeList changes one of a list, leaves it out, or lays it there once more.
func (n *lot) changeList(v reflect.Value) {
	if v.Len() == 0 {
		if n.below(8) == 0 {
			v.Set(reflect.MakeSlice(v.Type(), 1, 1))
		}
		return
	}
	at := n.below(v.Len())
	switch n.below(8) {
	case 0:
		v.Set(reflect.AppendSlice(v.Slice3(0, at, at), v.Slice(at+1, v.Len())))
	case 1:
		x := deep(v.Index(at))
		v.Set(reflect.Append(v.Slice3(0, v.Len(), v.Len()), x))
	default:
		n.change(v.Index(at))
	}
}

// P11.2, P11.4: modules with up to four things changed, held against the words; those that are Sane are loaded as bytes as well.
func TestLotsOfModules(t *testing.T) {
	n := lot(34)
	var told [9]int
	for k := range 30000 {
		m := draw(&n, full, other)()
		for range 1 + k%4 {
			n.change(reflect.ValueOf(&m).Elem())
		}
		e := held(t, m)
		told[e]++
		if b, f := module.Encode(m); f == api.OK {
			if _, g := loads(t, b); g != e {
				t.Errorf("Valid(%s) = %d, but loaded %d", short(m), e, g)
			}
		} else if e != api.ErrArg {
			t.Errorf("Valid(%s) = %d; but Encode %d", short(m), e, f)
		}
	}
	for _, x := range []struct {
		e    api.Errno
		most int
	}{{api.OK, 3000}, {api.ErrArg, 3000}, {api.ErrType, 3000}, {api.ErrName, 3000}, {api.ErrLimit, 100}} {
		if told[x.e] < x.most {
			t.Errorf("just %d of them were %d", told[x.e], x.e)
		}
	}
}

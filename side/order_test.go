package side

import (
	"math"
	"slices"
	"testing"

	"avocet/api"
	"avocet/check"
)

// ofByWords is Of, word by word of P12.2: those from at, and of these the k-th.
func ofByWords(t Table, at, k int) (Jump, bool) {
	from := slices.DeleteFunc(slices.Clone(t.Jumps), func(j Jump) bool { return j.At != at })
	if k < 0 || k >= len(from) {
		return Jump{}, false
	}
	return from[k], true
}

// some are numbers that a place or a count may be, small ones first.
func some() []int {
	return []int{0, 1, 2, 3, -1, -2, 64, 65, 1 << 32, -1 << 32, math.MaxInt, math.MaxInt - 1, math.MinInt, math.MinInt + 1}
}

// asked holds Of against the words, at all places that a table names, at others, and at all of the places around.
func asked(t *testing.T, x Table) {
	t.Helper()
	places := some()
	for _, j := range x.Jumps {
		places = append(places, j.At-1, j.At, j.At+1)
	}
	for _, at := range append(places, x.Starts...) {
		for _, k := range append(some(), len(x.Jumps)-1, len(x.Jumps)) {
			j, ok := Of(x, at, k)
			if right, there := ofByWords(x, at, k); j != right || ok != there {
				t.Fatalf("Of %v at %d, %d = %v, %v; want %v, %v", x.Jumps, at, k, j, ok, right, there)
			}
		}
	}
}

// P12.2: Of what Make tells: at each jump's place, at places between and outside of them, of the first, the last and one more.
func TestOf(t *testing.T) {
	x := made(t, "i", "block:i i64 drop i32 i32 br_if:0 if:i i32 else i32 i32 br_table:1,0,2,0 end end nop")
	for _, y := range []struct {
		at, k int
		want  Jump
		ok    bool
	}{
		{9, 0, Jump{9, 28, 0, 1}, true}, {11, 0, Jump{11, 16, 0, 0}, true}, {15, 0, Jump{15, 27, 1, 0}, true},
		{20, 0, Jump{20, 28, 0, 1}, true}, {20, 1, Jump{20, 27, 0, 1}, true}, {20, 2, Jump{20, 29, 0, 1}, true}, {20, 3, Jump{20, 27, 0, 1}, true},
		{9, 1, Jump{}, false}, {11, 1, Jump{}, false}, {15, 2, Jump{}, false}, {20, 4, Jump{}, false}, {20, math.MaxInt, Jump{}, false},
		{9, -1, Jump{}, false}, {20, -1, Jump{}, false}, {20, -4, Jump{}, false}, {20, math.MinInt, Jump{}, false},
		{0, 0, Jump{}, false}, {10, 0, Jump{}, false}, {16, 0, Jump{}, false}, {19, 0, Jump{}, false}, {21, 0, Jump{}, false}, {26, 0, Jump{}, false}, {28, 0, Jump{}, false}, {29, 0, Jump{}, false},
		{-1, 0, Jump{}, false}, {30, 0, Jump{}, false}, {math.MaxInt, 0, Jump{}, false}, {math.MinInt, 0, Jump{}, false},
	} {
		if j, ok := Of(x, y.at, y.k); j != y.want || ok != y.ok {
			t.Errorf("Of at %d, %d = %v, %v; want %v, %v", y.at, y.k, j, ok, y.want, y.ok)
		}
	}
	asked(t, x)
}

// P12.2: Of tables of none, of one, and of those that nobody made: what is from one place is told in the order in which it stands, wherever that is.
func TestOfTablesInNoOrder(t *testing.T) {
	asked(t, Table{})
	asked(t, Table{Starts: []int{0, 1, 2}, Heights: []int{0, 0}, Loops: []int{1}})
	for _, at := range some() {
		asked(t, Table{Jumps: []Jump{{at, 1, 2, 3}}})
		asked(t, Table{Jumps: []Jump{{at, 1, 2, 3}, {1, 2, 3, 4}, {at, -1, -2, -3}, {0, 0, 0, 0}, {at, 1, 2, 3}}})
	}
	n := 0
	everyList([]int{3, 5, 5, 4}, 5, func(places []int) {
		var l []Jump
		for k, at := range places {
			l = append(l, Jump{at, k, -k, k + n})
		}
		n++
		asked(t, Table{Jumps: l})
	})
}

// orderByWords is Order, word by word of P12.2: each is laid ahead of the first one that is from behind its place.
func orderByWords(l []Jump) []Jump {
	var out []Jump
	for _, j := range l {
		k := 0
		for k < len(out) && out[k].At <= j.At {
			k++
		}
		out = slices.Insert(out, k, j)
	}
	return out
}

// ordered holds Order against the words, and asks that nothing was done to what it was given.
func ordered(t *testing.T, l []Jump) {
	t.Helper()
	kept := slices.Clone(l)
	if got, right := Order(l), orderByWords(kept); !slices.Equal(got, right) {
		t.Fatalf("Order of %v = %v; want %v", kept, got, right)
	}
	if !slices.Equal(l, kept) {
		t.Fatalf("Order made %v of %v", l, kept)
	}
}

// P12.2: Order of none, of one, of jumps in order and in none, of several from one place.
func TestOrder(t *testing.T) {
	for _, l := range [][]Jump{nil, {}, {{5, 1, 2, 3}}, {{1, 0, 0, 0}, {2, 0, 0, 0}, {3, 0, 0, 0}}, {{3, 1, 0, 0}, {2, 2, 0, 0}, {1, 3, 0, 0}}, {{7, 4, 0, 0}, {7, 3, 0, 0}, {7, 2, 0, 0}, {7, 2, 0, 0}}, {{2, 9, 9, 9}, {1, 9, 9, 9}, {2, 1, 1, 1}, {1, 1, 1, 1}, {2, 5, 5, 5}}} {
		ordered(t, l)
	}
	if l := Order(nil); len(l) != 0 {
		t.Errorf("of none: %v", l)
	}
	got := Order([]Jump{{3, 1, 0, 0}, {-1, 9, 8, 7}, {3, 0, 0, 0}, {math.MaxInt, 0, 0, 0}, {math.MinInt, 0, 0, 0}, {0, 2, 0, 0}, {3, 1, 0, 1}})
	want := []Jump{{math.MinInt, 0, 0, 0}, {-1, 9, 8, 7}, {0, 2, 0, 0}, {3, 1, 0, 0}, {3, 0, 0, 0}, {3, 1, 0, 1}, {math.MaxInt, 0, 0, 0}}
	if !slices.Equal(got, want) {
		t.Errorf("%v; want %v", got, want)
	}
}

// P12.2: Order of all short lists, and of long ones, of few places and of many.
func TestOrderOfManyLists(t *testing.T) {
	everyList([]int{math.MinInt, -1, 0, 1, math.MaxInt}, 5, func(places []int) {
		var l []Jump
		for k, at := range places {
			l = append(l, Jump{at, -k, k % 2, k})
		}
		ordered(t, l)
	})
	n := lot(3)
	for k := range 300 {
		var l []Jump
		for range k {
			l = append(l, Jump{n.below(1+k/3) - 20, n.below(9), n.below(3), len(l)})
		}
		ordered(t, l)
		ordered(t, Order(l))
		slices.Reverse(l)
		ordered(t, l)
	}
}

// P12.2: what Make tells is in order, and stays so.
func TestOrderOfWhatIsMade(t *testing.T) {
	n := lot(5)
	for k := range 300 {
		e := gives([]string{"", "i", "l"}[k%3])
		x, _, f := Make(e, laid(grown(&n, e, 10+k%60)), 0)
		if f != api.OK || !slices.Equal(Order(x.Jumps), x.Jumps) {
			t.Fatalf("%v, %d", x.Jumps, f)
		}
		asked(t, x)
	}
	if x, _, f := Make(check.Env{}, []byte{11}, 0); f != api.OK || len(Order(x.Jumps)) != 0 {
		t.Errorf("%v, %d", x, f)
	}
}

package side

import (
	"slices"
	"testing"

	"avocet/api"
	"avocet/body"
	"avocet/check"
	"avocet/instr"
)

// seen is an instruction that was done: where it begins, and the values ahead of it.
type seen struct {
	at   int
	vals []uint64
}

// most is how many instructions are done; behind these, nobody asks where one would have gone on.
const most = 300

// machine does what a body of grown tells, but its branches: what is left is told by whoever uses it.
type machine struct {
	vals, locals []uint64
	done         []seen
	over         bool // all is over: as many instructions as may be were done, or there is nothing to be done
}

func (m *machine) pop() uint64 {
	v := m.vals[len(m.vals)-1]
	m.vals = m.vals[:len(m.vals)-1]
	return v
}

// do is an instruction that begins at a place. What goes on elsewhere just has its value taken, which it tells.
func (m *machine) do(i api.Instr, at int) (taken uint64) {
	m.done = append(m.done, seen{at, slices.Clone(m.vals)})
	switch i.Op {
	case 0:
		m.over = true
	case 4, 13, 14, 26:
		taken = m.pop()
	case 27:
		if c, other := m.pop(), m.pop(); c == 0 {
			m.vals[len(m.vals)-1] = other
		}
	case 32:
		m.vals = append(m.vals, m.locals[i.A])
	case 33:
		m.locals[i.A] = m.pop()
	case 34:
		m.locals[i.A] = m.vals[len(m.vals)-1]
	case 65, 66:
		m.vals = append(m.vals, i.K)
	case 69, 80:
		m.vals = append(m.vals, boolean(m.pop() == 0))
	case 106:
		m.vals = append(m.vals, uint64(uint32(m.pop()+m.pop())))
	case 167:
		m.vals = append(m.vals, uint64(uint32(m.pop())))
	}
	m.over = m.over || len(m.done) == most
	return taken
}

func boolean(b bool) uint64 {
	if b {
		return 1
	}
	return 0
}

// jump does what a jump tells: the topmost of the values are laid on those below, and one goes on at the place that it answers.
func (m *machine) jump(t *testing.T, x Table, at, k int) int {
	j, ok := Of(x, at, k)
	if !ok || j.Height+j.Arity > len(m.vals) {
		t.Fatalf("of %v there is no jump %d at %d, or it has more values than there are: %v", x.Jumps, k, at, m.vals)
	}
	m.vals = append(slices.Clone(m.vals[:j.Height]), m.vals[len(m.vals)-j.Arity:]...)
	return j.To
}

// beside runs a body's bytes, as its table tells where branches go.
func beside(t *testing.T, b []byte, at int, x Table) *machine {
	m := &machine{locals: []uint64{1, 2}}
	end := x.Starts[len(x.Starts)-1]
	for !m.over && at != end {
		i, behind, e := instr.Read(b, at)
		if e != api.OK || len(m.vals) != x.Heights[slices.Index(x.Starts, at)] {
			t.Fatalf("of %v at %d: %d, %v", b, at, e, m.vals)
		}
		taken := m.do(i, at)
		switch {
		case i.Op == 15:
			return m
		case i.Op == 12 || i.Op == 5 || i.Op == 13 && taken != 0 || i.Op == 4 && taken == 0:
			behind = m.jump(t, x, at, 0)
		case i.Op == 14:
			behind = m.jump(t, x, at, int(min(taken, uint64(len(i.Labels)))))
		}
		at = behind
	}
	return m
}

// within runs a body without a table, as what stands in one another: each part is gone into and out of by itself.
type within struct {
	machine
	l       []api.Instr
	starts  []int
	matches []body.Match
	results int
}

// on is what follows of a part: that one goes on behind it, or goes out of as many.
const on = -1

// part does the instructions from one on, up to another one, and tells how many one goes out of.
func (w *within) part(k, to int) int {
	for k < to && !w.over {
		i := w.l[k]
		taken := w.do(i, w.starts[k])
		out := on
		switch i.Op {
		case 2, 3, 4:
			out = w.inside(k, i.Op != 4 || taken != 0)
			k = w.matches[k].End
		case 12:
			return i.A
		case 13:
			if taken != 0 {
				return i.A
			}
		case 14:
			return append(slices.Clone(i.Labels), i.A)[min(taken, uint64(len(i.Labels)))]
		case 15:
			w.over = true
		}
		if out != on {
			return out
		}
		k++
	}
	return on
}

// inside does what stands in the block, loop or if at k, and tells how many more one goes out of. Its end is done where it is come to, and so is the else that is behind what was done ahead of it.
func (w *within) inside(k int, then bool) int {
	height, m := len(w.vals), w.matches[k]
	from, to := k+1, m.End
	switch {
	case m.Else >= 0 && then:
		to = m.Else
	case m.Else >= 0:
		from = m.Else + 1
	case !then:
		return on
	}
	out := w.part(from, to)
	for out == 0 && w.l[k].Op == 3 && !w.over {
		w.vals = w.vals[:height]
		w.do(w.l[k], w.starts[k])
		out = w.part(from, to)
	}
	switch {
	case w.over:
	case out == on:
		w.do(w.l[to], w.starts[to])
	case out == 0:
		w.keep(height, leaves(w.l, k))
	default:
		return out - 1
	}
	return on
}

// keep leaves the values below, and n of the topmost ones.
func (w *within) keep(height, n int) {
	w.vals = append(slices.Clone(w.vals[:height]), w.vals[len(w.vals)-n:]...)
}

// inOneAnother runs a body that fits without a table.
func inOneAnother(e check.Env, b []byte, at int) *machine {
	l, behind, _ := body.Read(b, at)
	matches, _ := body.Matches(l)
	w := &within{machine: machine{locals: []uint64{1, 2}}, l: l, starts: startsByWords(b, at, behind), matches: matches, results: len(e.Results)}
	if w.part(0, len(l)) != on && !w.over {
		w.keep(0, w.results)
	}
	return &w.machine
}

// What a table tells is what running does: the same is done, with the same values, as where nothing but the instructions in one another tells where branches go.
func TestRunningBesideTheBytes(t *testing.T) {
	n, jumps, long := lot(9), 0, 0
	for k := range 4000 {
		e := gives([]string{"", "i", "l"}[k%3])
		at := k % 4
		b := slices.Concat(make([]byte, at), laid(grown(&n, e, 5+k%80)))
		x, _, f := Make(e, b, at)
		if f != api.OK {
			t.Fatalf("of %v: %d", b, f)
		}
		got, right := beside(t, b, at, x), inOneAnother(e, b, at)
		if !slices.EqualFunc(got.done, right.done, func(a, b seen) bool { return a.at == b.at && slices.Equal(a.vals, b.vals) }) || len(got.done) < most && !slices.Equal(got.vals, right.vals) {
			t.Fatalf("of %v with %v: %v; in one another %v", b, x.Jumps, got, right)
		}
		for k := range got.done[1:] {
			if got.done[k+1].at != x.Starts[slices.Index(x.Starts, got.done[k].at)+1] {
				jumps++
			}
		}
		if len(got.done) >= 20 {
			long++
		}
	}
	if jumps < 2000 || long < 500 {
		t.Errorf("just %d jumps were made, and %d bodies were long ones", jumps, long)
	}
}

package valid

import (
	"iter"
	"slices"

	"avocet/api"
	"avocet/check"
	"avocet/module"
	"avocet/types"
)

const (
	mostPages   = 65536 // pages that a memory may come to; api.MaxPages are those that it may begin with
	mostOfAKind = 1     // tables, and memories, that a module may have
	noStart     = -1    // Start of a module that has none
)

// checks tells what each check of a module that is Sane answers, in order. They are made one by one, as long as somebody asks: each may stand on those ahead of it.
func checks(m api.Module) iter.Seq[api.Errno] {
	return inOrder(
		each(module.Funcs(m), func(t int) api.Errno { return unless(t < len(m.Types), api.ErrName) }),
		each(Tables(m), table),
		each(Memories(m), memory),
		each([]int{module.Count(m, api.Table), module.Count(m, api.Memory)}, number),
		each(m.Globals, func(g api.GlobalDef) api.Errno { return Const(m, g.Init, g.Val) }),
		exports(m),
		each([]int{m.Start}, func(f int) api.Errno { return start(m, f) }),
		each(m.Elems, func(x api.Elem) api.Errno { return elem(m, x) }),
		each(m.Datas, func(d api.Data) api.Errno { return data(m, d) }),
		codes(m),
	)
}

// inOrder tells what several tell, one behind the other.
func inOrder(l ...iter.Seq[api.Errno]) iter.Seq[api.Errno] {
	return func(yield func(api.Errno) bool) {
		for _, told := range l {
			for e := range told {
				if !yield(e) {
					return
				}
			}
		}
	}
}

// each tells what a check answers of each of a list.
func each[T any](l []T, checked func(T) api.Errno) iter.Seq[api.Errno] {
	return func(yield func(api.Errno) bool) {
		for _, x := range l {
			if !yield(checked(x)) {
				return
			}
		}
	}
}

func table(l api.Limits) api.Errno {
	if isCrossed(l) {
		return api.ErrType
	}
	return unless(l.Min <= api.MaxTableSize, api.ErrLimit)
}

func memory(l api.Limits) api.Errno {
	if isCrossed(l) || max(l.Min, l.Max) > mostPages {
		return api.ErrType
	}
	return unless(l.Min <= api.MaxPages, api.ErrLimit)
}

// isCrossed: is Max below Min?
func isCrossed(l api.Limits) bool { return l.HasMax && l.Max < l.Min }

// number: may there be so many tables, or memories?
func number(n int) api.Errno { return unless(n <= mostOfAKind, api.ErrType) }

// exports tells of each export whether it is of something, and then whether its name is its own.
func exports(m api.Module) iter.Seq[api.Errno] {
	return func(yield func(api.Errno) bool) {
		there := map[string]struct{}{}
		for _, x := range m.Exports {
			_, was := there[x.Name]
			there[x.Name] = struct{}{}
			if !yield(unless(x.Index < module.Count(m, x.Kind), api.ErrName)) || !yield(unless(!was, api.ErrType)) {
				return
			}
		}
	}
}

// start: may a module start with a function?
func start(m api.Module, f int) api.Errno {
	if f == noStart {
		return api.OK
	}
	t, ok := check.Type(check.Env{Types: m.Types, Funcs: module.Funcs(m)}, f)
	if !ok {
		return api.ErrName
	}
	return unless(types.Same(t, api.FuncType{}), api.ErrType)
}

func elem(m api.Module, x api.Elem) api.Errno {
	if module.Count(m, api.Table) == 0 {
		return api.ErrName
	}
	if e := Const(m, x.Offset, api.I32); e != api.OK {
		return e
	}
	n := module.Count(m, api.Func)
	return unless(!slices.ContainsFunc(x.Funcs, func(f int) bool { return f >= n }), api.ErrName)
}

func data(m api.Module, d api.Data) api.Errno {
	if module.Count(m, api.Memory) == 0 {
		return api.ErrName
	}
	return Const(m, d.Offset, api.I32)
}

// codes tells of each of its own functions whether its body fits. (Each has an Env: its type was asked for ahead.)
func codes(m api.Module) iter.Seq[api.Errno] {
	return func(yield func(api.Errno) bool) {
		for f, c := range m.Codes {
			e, _ := Env(m, f)
			if !yield(unless(len(e.Locals) <= api.MaxLocals, api.ErrLimit)) || !yield(check.Body(e, c.Body)) {
				return
			}
		}
	}
}

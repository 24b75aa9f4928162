package kernel_test

import (
	"slices"

	"lienbook/api"
	"lienbook/env"
	"lienbook/names"
	"lienbook/step"
)

// The chapter's words by another way: where a statement stands, and its environment, is counted ahead, by what stands ahead of it, and nothing is kept meanwhile.

// verdict is what is known, or what is wrong (0: nothing), and where.
type verdict struct {
	e    []api.Bind
	at   int
	code api.Code
}

// words is what a derivation is looked at by: the functions ahead, and it.
type words struct {
	ahead []api.Fn
	d     [][]api.Bind
}

// spot is the number of a statement, and of the environment that is the next one there.
type spot struct{ n, k int }

// behind is the spot behind statements.
func (at spot) behind(list ...api.Stmt) spot {
	for _, s := range list {
		at = spot{at.n + 1, at.k}.behind(s.Then...).behind(s.Else...)
		if s.Kind == api.If || s.Kind == api.Repeat {
			at.k++
		}
	}
	return at
}

func code(err error) api.Code {
	if err == nil {
		return 0
	}
	return err.(api.Code)
}

func (w words) block(e []api.Bind, at spot, list []api.Stmt) verdict {
	if len(list) == 0 {
		return verdict{e: e}
	}
	first := w.stmt(e, at, list[0])
	if first.code != 0 {
		return first
	}
	return w.block(first.e, at.behind(list[0]), list[1:])
}

func (w words) stmt(e []api.Bind, at spot, s api.Stmt) verdict {
	wrong := func(why api.Code) verdict { return verdict{nil, at.n, why} }
	if s.Kind == api.Set {
		out, err := step.Set(w.ahead, e, s.Place, s.Expr)
		return verdict{out, at.n, code(err)}
	}
	t, e, err := step.Eval(w.ahead, e, s.Expr)
	if err != nil {
		return wrong(code(err))
	}
	if s.Kind == api.Let {
		return verdict{e: slices.Concat(e, []api.Bind{{Name: s.Name, Ty: t}})}
	}
	if t.Kind != api.Int {
		return wrong(api.BadShape)
	}
	if at.k >= len(w.d) {
		return wrong(api.BadTree)
	}
	mine := w.d[at.k]
	if s.Kind == api.Repeat {
		if !env.Less(e, mine) {
			return wrong(api.BadTree)
		}
		return w.leaves(mine, spot{at.n + 1, at.k + 1}, s.Then, at.n, mine)
	}
	if len(e) != len(mine) {
		return wrong(api.BadTree)
	}
	inside := spot{at.n + 1, at.k + 1}
	if out := w.leaves(e, inside, s.Then, at.n, mine); out.code != 0 {
		return out
	}
	return w.leaves(e, inside.behind(s.Then...), s.Else, at.n, mine)
}

// leaves is most, if a block holds and leaves what is at most that; what is wrong with what it leaves is at n.
func (w words) leaves(e []api.Bind, at spot, list []api.Stmt, n int, most []api.Bind) verdict {
	out := w.block(e, at, list)
	if out.code != 0 {
		return out
	}
	left, err := step.Leave(out.e, len(e))
	if err != nil {
		return verdict{nil, n, code(err)}
	}
	if !env.Less(left, most) {
		return verdict{nil, n, api.BadTree}
	}
	return verdict{e: most}
}

// checkByWords is what is wrong with the derivation of a function, and where (-1: at no place).
func checkByWords(p []api.Fn, at int, d [][]api.Bind) (int, api.Code) {
	if names.Check(p) != nil || at < 0 || at >= len(p) || slices.ContainsFunc(d, func(e []api.Bind) bool { return !env.Right(e) }) {
		return -1, api.BadForm
	}
	f, w := p[at], words{p[:at], d}
	out := w.block(step.Start(f), spot{}, f.Body)
	if out.code != 0 {
		return out.at, out.code
	}
	end := spot{}.behind(f.Body...)
	t, _, err := step.Eval(w.ahead, out.e, f.Value)
	if err == nil {
		err = step.Gives(f, t)
	}
	if err == nil && end.k != len(d) {
		err = api.BadTree
	}
	if err != nil {
		return end.n, code(err)
	}
	return 0, 0
}

// allByWords is what is wrong with derivations, and where.
func allByWords(p []api.Fn, d [][][]api.Bind) (int, api.Code) {
	if names.Check(p) != nil {
		return -1, api.BadForm
	}
	if len(p) != len(d) {
		return -1, api.BadTree
	}
	for k := range p {
		if at, why := checkByWords(p, k, d[k]); why != 0 {
			return at, why
		}
	}
	return 0, 0
}

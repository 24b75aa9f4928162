package step

import (
	"slices"

	"lienbook/api"
	"lienbook/env"
)

// state is what an expression finds: the functions ahead, and what is known, in memory of its own, which it alters; and what each kind of expression comes to. What goes wrong leaves by panic, with its code.
type state struct {
	ahead []api.Fn
	known []api.Bind
	comes map[int]func(*state, api.Expr) api.Ty
}

func newState(ahead []api.Fn, e []api.Bind) *state {
	return &state{ahead, ownBinds(e), map[int]func(*state, api.Expr) api.Ty{
		api.Lit:   (*state).number,
		api.Var:   (*state).place,
		api.Part:  (*state).place,
		api.Deref: (*state).place,
		api.Lend:  (*state).lend,
		api.New:   (*state).box,
		api.Row:   (*state).row,
		api.Oper:  (*state).oper,
		api.Call:  (*state).call,
	}}
}

// attempt does what may go wrong: what did, if something did.
func attempt(do func()) (wrong error) {
	defer func() {
		why := recover()
		if code, ok := why.(api.Code); ok {
			wrong = code
		} else if why != nil {
			panic(why) // nothing that is handed in leads here, and a mistake of this package's own is not to be hidden
		}
	}()
	do()
	return nil
}

func (s *state) eval(x api.Expr) api.Ty { return s.comes[x.Kind](s, x) }

// wait binds what was made, without a name, behind all.
func (s *state) wait(t api.Ty) { s.known = append(s.known, api.Bind{Ty: t}) }

// forget: just n binds are known from here on.
func (s *state) forget(n int) { s.known = slices.Delete(s.known, n, len(s.known)) }

// kids: what an expression's kids come to; ask is handed each, behind it. Each waits while those behind it are made.
func (s *state) kids(x api.Expr, ask func(i int, kid api.Ty)) []api.Ty {
	var out []api.Ty
	n := len(s.known)
	for i, kid := range x.Kids {
		t := s.eval(kid)
		ask(i, t)
		out = append(out, t)
		s.wait(t)
	}
	s.forget(n)
	return out
}

func (s *state) number(api.Expr) api.Ty { return api.Ty{Kind: api.Int} }

func (s *state) place(x api.Expr) api.Ty {
	at := s.find(x)
	// A leaf that is hit is in a place that is hit: just the binds by which that is are asked.
	by := slices.DeleteFunc(slices.Clone(s.known), func(b api.Bind) bool {
		return !env.Hit([]api.Bind{b}, at.place, true)
	})
	for p, leaf := range at.leaves() {
		moved := moves(leaf)
		switch {
		case moved && leaf.Gone:
			panic(api.Gone)
		case moved && at.derefs():
			panic(api.Shared)
		case env.Hit(by, p, moved):
			panic(api.Lent)
		}
	}
	out := own(*at.ty)
	for _, leaf := range at.leaves() {
		if moves(leaf) {
			leaf.Gone, leaf.Loans = true, nil
		}
	}
	return out
}

func (s *state) lend(x api.Expr) api.Ty {
	at := s.find(x.Kids[0])
	switch {
	case some(at.ty, isRef):
		panic(api.BadShape)
	case some(at.ty, isGone):
		panic(api.Gone)
	case x.Mut && at.shared():
		panic(api.Shared)
	case env.Hit(s.known, at.place, x.Mut):
		panic(api.Lent)
	}
	loans := []api.Loan{{Place: at.place, Mut: x.Mut}}
	if at.ref != nil {
		loans = append(loans, at.ref.Loans...)
	}
	return api.Ty{Kind: api.Ref, Mut: x.Mut, Loans: rising(loans), Kids: []api.Ty{own(*at.ty)}}
}

func (s *state) box(x api.Expr) api.Ty {
	return whole(api.Box, s.kids(x, func(_ int, kid api.Ty) {
		if some(&kid, isRef) {
			panic(api.BadShape)
		}
	}))
}

func (s *state) row(x api.Expr) api.Ty {
	return whole(api.Tuple, s.kids(x, func(int, api.Ty) {}))
}

// whole: a type of that kind, of these kids.
func whole(kind int, kids []api.Ty) api.Ty {
	out := api.Ty{Kind: kind, Kids: kids}
	if size(&out) > api.MaxParts {
		panic(api.TooMuch)
	}
	return out
}

func (s *state) oper(x api.Expr) api.Ty {
	s.kids(x, func(_ int, kid api.Ty) {
		if kid.Kind != api.Int {
			panic(api.BadShape)
		}
	})
	return api.Ty{Kind: api.Int}
}

func (s *state) call(x api.Expr) api.Ty {
	i := slices.IndexFunc(s.ahead, func(f api.Fn) bool { return f.Name == x.Name })
	if i < 0 || len(s.ahead[i].Params) != len(x.Kids) {
		panic(api.BadName)
	}
	f, lent := s.ahead[i], borrowed{}
	s.kids(x, func(i int, kid api.Ty) {
		p := f.Params[i]
		if !env.Fits(kid, Shape(p.Type)) {
			panic(api.BadShape)
		}
		lent.take(p, kid)
	})
	out := Shape(f.Gives)
	for r := range refs(&f.Gives, &out) {
		r.ty.Loans = lent.behind(f, r.written.Life)
	}
	return out
}

// set does a Set.
func (s *state) set(place, x api.Expr) {
	n := len(s.known)
	t := s.eval(x)
	s.wait(t)
	at := s.find(place)
	switch {
	case !env.Fits(t, *at.ty):
		panic(api.BadShape)
	case at.shared():
		panic(api.Shared)
	case env.Hit(s.known, at.place, true):
		panic(api.Lent)
	}
	if at.ref == nil {
		*at.ty = t
	}
	s.forget(n)
}

package step_test

import (
	"slices"
	"sort"

	"lienbook/api"
	"lienbook/env"
	"lienbook/step"
)

// The chapter's words by another way: environments are values, each change makes a new one, and what goes wrong is handed back as a code (0, where nothing does).

type result struct {
	ty   api.Ty
	e    []api.Bind
	code api.Code
}

func wrong(code api.Code) result { return result{code: code} }

// found is a place, its type, and the references on the way to it.
type found struct {
	place api.Place
	ty    api.Ty
	refs  []api.Ty
	code  api.Code
}

func findByWords(e []api.Bind, x api.Expr) found {
	if x.Kind == api.Var {
		for i := len(e) - 1; i >= 0; i-- {
			if e[i].Name == x.Name {
				return found{place: api.Place{Var: x.Name}, ty: e[i].Ty}
			}
		}
		return found{code: api.BadName}
	}
	kid := findByWords(e, x.Kids[0])
	if kid.code != 0 {
		return kid
	}
	step, n := -1, 0
	if x.Kind == api.Part {
		step, n = int(x.Num), int(x.Num)
	}
	switch {
	case x.Kind == api.Part && (kid.ty.Kind != api.Tuple || len(kid.ty.Kids) <= n):
		return found{code: api.BadShape}
	case x.Kind == api.Deref && kid.ty.Kind != api.Box && kid.ty.Kind != api.Ref:
		return found{code: api.BadShape}
	case x.Kind == api.Deref && kid.ty.Gone:
		return found{code: api.Gone}
	case x.Kind == api.Deref && kid.ty.Kind == api.Ref:
		kid.refs = append(kid.refs, kid.ty)
	}
	return found{longer(kid.place, step), kid.ty.Kids[n], kid.refs, 0}
}

func longer(p api.Place, step int) api.Place {
	return api.Place{Var: p.Var, Steps: slices.Concat(p.Steps, []int{step})}
}

// change is what is known with the type at a place changed.
func change(e []api.Bind, p api.Place, to func(api.Ty) api.Ty) []api.Bind {
	out := slices.Clone(e)
	for i := len(e) - 1; i >= 0; i-- {
		if e[i].Name == p.Var {
			out[i].Ty = changeType(e[i].Ty, p.Steps, to)
			break
		}
	}
	return out
}

func changeType(t api.Ty, steps []int, to func(api.Ty) api.Ty) api.Ty {
	if len(steps) == 0 {
		return to(t)
	}
	t.Kids = slices.Clone(t.Kids)
	n := max(0, steps[0])
	t.Kids[n] = changeType(t.Kids[n], steps[1:], to)
	return t
}

func loansIn(t api.Ty) []api.Loan {
	out := slices.Clone(t.Loans)
	for _, kid := range t.Kids {
		out = append(out, loansIn(kid)...)
	}
	return out
}

func hitByWords(e []api.Bind, p api.Place, write bool) bool {
	for _, b := range e {
		for _, l := range loansIn(b.Ty) {
			if l.Life == "" && (write || l.Mut) && env.Overlap(l.Place, p) {
				return true
			}
		}
	}
	return false
}

// anyPart: is some part of a type so?
func anyPart(t api.Ty, is func(api.Ty) bool) bool {
	return is(t) || slices.ContainsFunc(t.Kids, func(kid api.Ty) bool { return anyPart(kid, is) })
}

func hasRef(t api.Ty) bool { return anyPart(t, func(x api.Ty) bool { return x.Kind == api.Ref }) }

func hasGone(t api.Ty) bool { return anyPart(t, func(x api.Ty) bool { return x.Gone }) }

func count(t api.Ty) int {
	n := 1
	for _, kid := range t.Kids {
		n += count(kid)
	}
	return n
}

func movesByWords(t api.Ty) bool { return t.Kind == api.Box || t.Kind == api.Ref && t.Mut }

// leaf is one, and its place.
type leaf struct {
	place api.Place
	ty    api.Ty
}

func leavesByWords(p api.Place, t api.Ty) []leaf {
	if t.Kind != api.Tuple {
		return []leaf{{p, t}}
	}
	var out []leaf
	for i, kid := range t.Kids {
		out = append(out, leavesByWords(longer(p, i), kid)...)
	}
	return out
}

func placeByWords(e []api.Bind, x api.Expr) result {
	at := findByWords(e, x)
	if at.code != 0 {
		return wrong(at.code)
	}
	behind := e
	for _, l := range leavesByWords(at.place, at.ty) {
		if !movesByWords(l.ty) {
			if hitByWords(e, l.place, false) {
				return wrong(api.Lent)
			}
			continue
		}
		if l.ty.Gone {
			return wrong(api.Gone)
		}
		if slices.Contains(at.place.Steps, -1) {
			return wrong(api.Shared)
		}
		if hitByWords(e, l.place, true) {
			return wrong(api.Lent)
		}
		behind = change(behind, l.place, func(t api.Ty) api.Ty {
			t.Gone, t.Loans = true, nil
			return t
		})
	}
	return result{ty: at.ty, e: behind}
}

func lendByWords(e []api.Bind, x api.Expr) result {
	at := findByWords(e, x.Kids[0])
	if at.code != 0 {
		return wrong(at.code)
	}
	loans := []api.Loan{{Place: at.place, Mut: x.Mut}}
	without := false
	for _, r := range at.refs {
		without = without || !r.Mut
		loans = append(loans, r.Loans...)
	}
	switch {
	case hasRef(at.ty):
		return wrong(api.BadShape)
	case hasGone(at.ty):
		return wrong(api.Gone)
	case x.Mut && without:
		return wrong(api.Shared)
	case hitByWords(e, at.place, x.Mut):
		return wrong(api.Lent)
	}
	return result{ty: api.Ty{Kind: api.Ref, Mut: x.Mut, Loans: inOrder(loans), Kids: []api.Ty{at.ty}}, e: e}
}

// inOrder is loans rising, no two alike.
func inOrder(list []api.Loan) []api.Loan {
	var out []api.Loan
	for _, l := range list {
		if !slices.ContainsFunc(out, func(k api.Loan) bool { return env.Cmp(k, l) == 0 }) {
			out = append(out, l)
		}
	}
	sort.Slice(out, func(i, j int) bool { return env.Cmp(out[i], out[j]) < 0 })
	return out
}

// evalByWords goes through the kids, those ahead bound without a name behind all, and asks each kind for what is its own.
func evalByWords(ahead []api.Fn, e []api.Bind, x api.Expr) result {
	var f *api.Fn
	switch x.Kind {
	case api.Var, api.Part, api.Deref:
		return placeByWords(e, x)
	case api.Lend:
		return lendByWords(e, x)
	case api.Call:
		for i := len(ahead) - 1; i >= 0; i-- {
			if ahead[i].Name == x.Name {
				f = &ahead[i]
			}
		}
		if f == nil || len(f.Params) != len(x.Kids) {
			return wrong(api.BadName)
		}
	}
	var kids []api.Ty
	now := e
	for i, kid := range x.Kids {
		one := evalByWords(ahead, now, kid)
		if one.code != 0 {
			return one
		}
		if x.Kind == api.Oper && one.ty.Kind != api.Int || x.Kind == api.New && hasRef(one.ty) || f != nil && !env.Fits(one.ty, step.Shape(f.Params[i].Type)) {
			return wrong(api.BadShape)
		}
		kids = append(kids, one.ty)
		now = slices.Concat(one.e, []api.Bind{{Ty: one.ty}})
	}
	out := result{ty: api.Ty{Kind: api.Int}, e: now[:len(e)]}
	switch x.Kind {
	case api.New:
		out.ty = api.Ty{Kind: api.Box, Kids: kids}
	case api.Row:
		out.ty = api.Ty{Kind: api.Tuple, Kids: kids}
	case api.Call:
		out.ty = givenByWords(*f, f.Gives, kids)
	}
	if (x.Kind == api.New || x.Kind == api.Row) && count(out.ty) > 64 {
		return wrong(api.TooMuch)
	}
	return out
}

// givenByWords is what a function gives back of a type, of what it was given.
func givenByWords(f api.Fn, t api.Type, given []api.Ty) api.Ty {
	out := api.Ty{Kind: t.Kind, Mut: t.Mut}
	if t.Kind == api.Ref {
		for i, p := range f.Params {
			out.Loans = append(out.Loans, loansFor(f, t.Life, p.Type, given[i])...)
		}
		out.Loans = inOrder(out.Loans)
	}
	for _, kid := range t.Kids {
		out.Kids = append(out.Kids, givenByWords(f, kid, given))
	}
	return out
}

func loansFor(f api.Fn, life string, t api.Type, given api.Ty) []api.Loan {
	var out []api.Loan
	if t.Kind == api.Ref && step.Outlives(f, t.Life, life) {
		out = append(out, given.Loans...)
	}
	for i, kid := range t.Kids {
		out = append(out, loansFor(f, life, kid, given.Kids[i])...)
	}
	return out
}

func setByWords(ahead []api.Fn, e []api.Bind, place, x api.Expr) result {
	is := evalByWords(ahead, e, x)
	if is.code != 0 {
		return is
	}
	now := slices.Concat(is.e, []api.Bind{{Ty: is.ty}})
	at := findByWords(now, place)
	switch {
	case at.code != 0:
		return wrong(at.code)
	case !env.Fits(is.ty, at.ty):
		return wrong(api.BadShape)
	case slices.ContainsFunc(at.refs, func(r api.Ty) bool { return !r.Mut }):
		return wrong(api.Shared)
	case hitByWords(now, at.place, true):
		return wrong(api.Lent)
	case len(at.refs) == 0:
		now = change(now, at.place, func(api.Ty) api.Ty { return is.ty })
	}
	return result{e: now[:len(e)]}
}

func leaveByWords(e []api.Bind, n int) result {
	if n < 0 || n > len(e) {
		return wrong(api.BadForm)
	}
	for i := len(e) - 1; i >= n; i-- {
		if env.Hit(e[:i], api.Place{Var: e[i].Name}, true) {
			return wrong(api.Lent)
		}
	}
	return result{e: e[:n]}
}

func givesByWords(f api.Fn, t api.Ty) api.Code {
	switch {
	case !env.Fits(t, step.Shape(f.Gives)):
		return api.BadShape
	case hasGone(t):
		return api.Gone
	case short(f, f.Gives, t):
		return api.Short
	}
	return 0
}

func short(f api.Fn, want api.Type, t api.Ty) bool {
	for _, l := range t.Loans {
		if l.Life == "" || !step.Outlives(f, l.Life, want.Life) {
			return true
		}
	}
	for i, kid := range t.Kids {
		if short(f, want.Kids[i], kid) {
			return true
		}
	}
	return false
}

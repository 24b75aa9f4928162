package step_test

import (
	"math/rand"
	"slices"

	"lienbook/api"
	"lienbook/env"
	"lienbook/step"
)

// roll makes environments, expressions and functions by chance. It mostly makes what may go right.
type roll struct {
	*rand.Rand
	ahead []api.Fn
	e     []api.Bind
}

func (r *roll) one(in int) bool { return r.Intn(in) == 0 }

func pick[T any](r *roll, list []T) T { return list[r.Intn(len(list))] }

// shape is a type of which nothing is known.
func (r *roll) shape(deep int, inside bool) api.Ty {
	switch kind := 1 + r.Intn(4); {
	case deep > 0 && kind == api.Box:
		return api.Ty{Kind: api.Box, Kids: []api.Ty{r.shape(deep-1, true)}}
	case deep > 0 && kind == api.Tuple:
		return api.Ty{Kind: api.Tuple, Kids: []api.Ty{r.shape(deep-1, inside), r.shape(deep-1, inside)}}
	case kind == api.Ref && !inside:
		return api.Ty{Kind: api.Ref, Mut: r.one(2), Kids: []api.Ty{r.shape(deep/2, true)}}
	}
	return api.Ty{Kind: api.Int}
}

// spotted is a place in an environment, as an expression, with its type.
type spotted struct {
	x  api.Expr
	p  api.Place
	ty api.Ty
}

// spots is all places of an environment.
func (r *roll) spots() []spotted {
	var out []spotted
	for _, b := range r.e {
		if b.Name != "" {
			out = append(out, inSpot(spotted{api.Expr{Kind: api.Var, Name: b.Name}, api.Place{Var: b.Name}, b.Ty})...)
		}
	}
	return out
}

func inSpot(at spotted) []spotted {
	out := []spotted{at}
	for i, kid := range at.ty.Kids {
		x, step := api.Expr{Kind: api.Part, Num: int64(i), Kids: []api.Expr{at.x}}, i
		if at.ty.Kind != api.Tuple {
			x.Kind, step = api.Deref, -1
		}
		out = append(out, inSpot(spotted{x, longer(at.p, step), kid})...)
	}
	return out
}

// fitting is places whose types fit.
func (r *roll) fitting(t api.Ty) []spotted {
	return slices.DeleteFunc(r.spots(), func(at spotted) bool { return !env.Fits(at.ty, t) })
}

// newEnv is a right environment: its shapes first, then what is known of them, each thing one time in so many.
func (r *roll) newEnv(in int) {
	r.e = nil
	for range 2 + r.Intn(4) {
		name := []string{"a", "b", "c", "d", "e", ""}[r.Intn(6)]
		r.e = append(r.e, api.Bind{Name: name, Ty: r.shape(3, false)})
	}
	var pool []api.Loan
	for _, at := range append(r.spots(), spotted{}, spotted{p: api.Place{Var: "z"}}) {
		pool = append(pool, api.Loan{Place: at.p}, api.Loan{Place: at.p, Mut: true})
	}
	pool = append(pool, api.Loan{Life: "k"}, api.Loan{Life: "l"}, api.Loan{Life: "m"})
	for i := range r.e {
		r.e[i].Ty = r.learn(r.e[i].Ty, inOrder(pool), in, false)
	}
}

func (r *roll) learn(t api.Ty, pool []api.Loan, in int, inside bool) api.Ty {
	if !inside && movesByWords(t) {
		t.Gone = r.one(in)
	}
	if t.Kind == api.Ref && r.one(2) {
		t.Loans = slices.DeleteFunc(slices.Clone(pool), func(api.Loan) bool { return !r.one(len(pool)) })
	}
	inside = inside || t.Kind == api.Box || t.Kind == api.Ref
	t.Kids = slices.Clone(t.Kids)
	for i, kid := range t.Kids {
		t.Kids[i] = r.learn(kid, pool, in, inside)
	}
	return t
}

// expr is an expression that mostly comes to what fits a type, if nothing else goes wrong.
func (r *roll) expr(deep int, t api.Ty) api.Expr {
	if r.one(25) {
		t = r.shape(2, false)
	}
	if r.one(60) {
		return api.Expr{Kind: api.Var, Name: pick(r, []string{"a", "b", "zz"})}
	}
	at := r.fitting(t)
	calls := r.giving(t)
	switch {
	case len(at) > 0 && r.one(2):
		return pick(r, at).x
	case deep > 0 && len(calls) > 0 && r.one(3):
		return r.call(deep, pick(r, calls))
	case t.Kind == api.Box && deep > 0:
		return api.Expr{Kind: api.New, Kids: []api.Expr{r.expr(deep-1, t.Kids[0])}}
	case t.Kind == api.Tuple && deep > 0:
		return r.row(deep, t)
	case t.Kind == api.Ref:
		return r.lend(t)
	case t.Kind == api.Int && deep > 0 && r.one(2):
		return api.Expr{Kind: api.Oper, Name: pick(r, []string{"+", "-", "*", "/", "<", "=="}), Kids: []api.Expr{r.expr(deep-1, t), r.expr(deep-1, t)}}
	}
	return api.Expr{Kind: api.Lit, Num: int64(r.Intn(3))}
}

// any is an expression, often a Call.
func (r *roll) any() api.Expr {
	if len(r.ahead) > 0 && r.one(3) {
		return r.call(3, pick(r, r.ahead))
	}
	return r.expr(3, r.shape(3, false))
}

func (r *roll) row(deep int, t api.Ty) api.Expr {
	out := api.Expr{Kind: api.Row}
	for _, kid := range t.Kids {
		out.Kids = append(out.Kids, r.expr(deep-1, kid))
	}
	return out
}

func (r *roll) lend(t api.Ty) api.Expr {
	at := r.fitting(t.Kids[0])
	if len(at) == 0 || r.one(30) {
		at = append(r.spots(), spotted{x: api.Expr{Kind: api.Var, Name: "zz"}})
	}
	return api.Expr{Kind: api.Lend, Mut: t.Mut, Kids: []api.Expr{pick(r, at).x}}
}

// giving is the functions ahead that give back what fits a type.
func (r *roll) giving(t api.Ty) []api.Fn {
	return slices.DeleteFunc(slices.Clone(r.ahead), func(f api.Fn) bool { return !env.Fits(step.Shape(f.Gives), t) })
}

func (r *roll) call(deep int, f api.Fn) api.Expr {
	out := api.Expr{Kind: api.Call, Name: f.Name}
	for _, p := range f.Params {
		out.Kids = append(out.Kids, r.expr(deep-1, step.Shape(p.Type)))
	}
	if r.one(40) {
		out.Kids = append(out.Kids, r.expr(0, api.Ty{Kind: api.Int}))
	}
	return out
}

// fn is a function of a few lives.
func (r *roll) fn(name string) api.Fn {
	lives, deep := []string{"k", "l", "m"}, 2*r.Intn(2)
	f := api.Fn{Name: name, Lives: lives, Gives: r.typ(deep, false), Value: api.Expr{Kind: api.Lit}}
	for i := range r.Intn(4) {
		f.Params = append(f.Params, api.Param{Name: string(rune('p' + i)), Type: r.typ(deep, false)})
	}
	for range 2 * r.Intn(3) {
		f.Outs = append(f.Outs, pick(r, lives))
	}
	return f
}

func (r *roll) typ(deep int, inside bool) api.Type {
	switch kind := 1 + r.Intn(4); {
	case deep > 0 && kind == api.Box:
		return api.Type{Kind: api.Box, Kids: []api.Type{r.typ(deep-1, true)}}
	case deep > 0 && kind == api.Tuple:
		return api.Type{Kind: api.Tuple, Kids: []api.Type{r.typ(deep-1, inside), r.typ(deep-1, inside)}}
	case kind != api.Int && !inside:
		return api.Type{Kind: api.Ref, Life: pick(r, []string{"k", "l", "m"}), Mut: r.one(2), Kids: []api.Type{r.typ(deep/2, true)}}
	}
	return api.Type{Kind: api.Int}
}

func (r *roll) newFns() {
	r.ahead = nil
	for range r.Intn(6) {
		r.ahead = append(r.ahead, r.fn(pick(r, []string{"f", "g", "h", "i", "j"})))
	}
}

// setting is a Set's place and expression.
func (r *roll) setting() (place, x api.Expr) {
	at := append(r.spots(), spotted{api.Expr{Kind: api.Var, Name: "zz"}, api.Place{Var: "zz"}, api.Ty{Kind: api.Int}})
	to := pick(r, at)
	return to.x, r.expr(3, to.ty)
}

// lesser is what is at most a type: things that are known of it are left out, each one time in so many.
func (r *roll) lesser(t api.Ty, in int) api.Ty {
	t.Gone = t.Gone && !r.one(in)
	t.Loans = slices.DeleteFunc(slices.Clone(t.Loans), func(api.Loan) bool { return r.one(in) })
	t.Kids = slices.Clone(t.Kids)
	for i, kid := range t.Kids {
		t.Kids[i] = r.lesser(kid, in)
	}
	return t
}

func (r *roll) lesserAll(e []api.Bind, in int) []api.Bind {
	out := slices.Clone(e)
	for i := range out {
		out[i].Ty = r.lesser(out[i].Ty, in)
	}
	return out
}

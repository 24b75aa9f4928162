package parse

import (
	"strconv"

	"lienbook/api"
)

const lastPart = api.MaxList - 1 // the greatest number of a tuple's part

func (r *reader) expr() api.Expr {
	x := r.sum()
	if r.sees("<", "==") {
		x = r.oper(x, r.sum)
	}
	return x
}

func (r *reader) sum() api.Expr { return r.line(r.product, "+", "-") }

func (r *reader) product() api.Expr { return r.line(r.one, "*", "/") }

// line: things with any of these operations between, which go together from the left.
func (r *reader) line(thing func() api.Expr, names ...string) api.Expr {
	x := thing()
	for r.sees(names...) {
		x = r.oper(x, thing)
	}
	return x
}

// oper: the operation that is next, of x, that stands ahead of it, and of the thing behind it.
func (r *reader) oper(x api.Expr, thing func() api.Expr) api.Expr {
	name := r.take(true)
	return api.Expr{Kind: api.Oper, Name: name, Kids: []api.Expr{x, thing()}}
}

func (r *reader) one() api.Expr {
	switch {
	case r.seesNumber():
		return api.Expr{Kind: api.Lit, Num: r.number()}
	case r.seesName():
		return r.named()
	case r.skip("box"):
		return around(api.New, r.one())
	case r.skip("&"):
		return r.lend()
	case r.skip("("):
		return r.inParens()
	}
	return r.place()
}

// named: a call, or a place that begins with a name.
func (r *reader) named() api.Expr {
	name := r.name()
	if r.skip("(") {
		return api.Expr{Kind: api.Call, Name: name, Kids: rowOrNone(r, r.expr, ")")}
	}
	return r.parts(api.Expr{Kind: api.Var, Name: name})
}

// lend: the expression whose & was passed by.
func (r *reader) lend() api.Expr {
	x := api.Expr{Kind: api.Lend, Mut: r.skip("mut")}
	x.Kids = []api.Expr{r.place()}
	return x
}

// inParens: what stands in parentheses, of which the first was passed by; of a place there may be parts behind the last.
func (r *reader) inParens() api.Expr {
	kids := row(r, r.expr)
	r.want(")")
	if len(kids) > 1 {
		return api.Expr{Kind: api.Row, Kids: kids}
	}
	x := kids[0]
	switch x.Kind {
	case api.Var, api.Part, api.Deref:
		return r.parts(x)
	}
	return x
}

func (r *reader) place() api.Expr {
	if r.skip("*") {
		return around(api.Deref, r.place())
	}
	return r.spot()
}

func (r *reader) spot() api.Expr {
	if !r.skip("(") {
		return r.parts(api.Expr{Kind: api.Var, Name: r.name()})
	}
	x := r.place()
	r.want(")")
	return r.parts(x)
}

// parts: the place x, or the part of it that the numbers behind it tell.
func (r *reader) parts(x api.Expr) api.Expr {
	for r.skip(".") {
		x = around(api.Part, x)
		x.Num = r.part()
	}
	return x
}

// part: the number of a tuple's part.
func (r *reader) part() int64 {
	return value(r.take(r.seesNumber() && value(r.left[0].Text) <= lastPart))
}

func (r *reader) seesNumber() bool { return r.left[0].Kind == api.Number }

func (r *reader) number() int64 { return value(r.take(r.seesNumber())) }

// value: what digits say.
func value(digits string) int64 {
	n, _ := strconv.ParseInt(digits, 10, 64) // layer 1's numbers are short enough for it
	return n
}

// around: an expression of a kind that has one kid.
func around(kind int, kid api.Expr) api.Expr {
	return api.Expr{Kind: kind, Kids: []api.Expr{kid}}
}

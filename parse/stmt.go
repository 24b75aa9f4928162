package parse

import "lienbook/api"

// stmts: statements, up to the word or mark that ends them.
func (r *reader) stmts(end string) []api.Stmt {
	var out []api.Stmt
	for !r.skip(end) {
		out = append(out, r.stmt())
	}
	return out
}

func (r *reader) stmt() api.Stmt {
	switch {
	case r.skip("let"):
		name := r.name()
		return api.Stmt{Kind: api.Let, Name: name, Expr: r.given()}
	case r.skip("if"):
		return r.branch()
	case r.skip("repeat"):
		times := r.expr()
		return api.Stmt{Kind: api.Repeat, Expr: times, Then: r.block()}
	}
	place := r.place()
	return api.Stmt{Kind: api.Set, Place: place, Expr: r.given()}
}

// given: what a Let or a Set gives a value by, from = to the semicolon.
func (r *reader) given() api.Expr {
	r.want("=")
	x := r.expr()
	r.want(";")
	return x
}

// branch: the statement whose if was passed by.
func (r *reader) branch() api.Stmt {
	asked := r.expr()
	then := r.block()
	r.want("else")
	return api.Stmt{Kind: api.If, Expr: asked, Then: then, Else: r.block()}
}

func (r *reader) block() []api.Stmt {
	r.want("{")
	return r.stmts("}")
}

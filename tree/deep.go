package tree

import "lienbook/api"

// shelf is a list of things that stand in a program at one level.
type shelf[T any] struct {
	level int
	list  []T
}

// gauge keeps the deepest level that was seen, and how deep it is worth while to look.
type gauge struct {
	deepest, limit int
}

// depth: how deep a program is; if that is beyond the limit, any depth beyond it.
func depth(p []api.Fn, limit int) int {
	g := gauge{limit: limit}
	for _, f := range p {
		for _, x := range f.Params {
			sound(&g, shelf[api.Type]{0, []api.Type{x.Type}}, inType)
		}
		sound(&g, shelf[api.Type]{0, []api.Type{f.Gives}}, inType)
		sound(&g, shelf[api.Stmt]{0, f.Body}, g.inStmt)
		sound(&g, shelf[api.Expr]{0, []api.Expr{f.Value}}, inExpr)
	}
	return g.deepest
}

// sound shows the gauge a shelf and all that is in its things, as in tells; it doesn't call itself, as a tree may be deeper than calls may.
func sound[T any](g *gauge, first shelf[T], in func(T, int) []shelf[T]) {
	work := []shelf[T]{first}
	for len(work) > 0 && g.deepest <= g.limit {
		last := work[len(work)-1]
		work = work[:len(work)-1]
		g.deepest = max(g.deepest, last.level)
		for _, x := range last.list {
			work = append(work, in(x, last.level)...)
		}
	}
}

// inType: what is in a type that stands at a level.
func inType(t api.Type, level int) []shelf[api.Type] {
	switch t.Kind {
	case api.Box, api.Tuple, api.Ref:
		return []shelf[api.Type]{{level + 1, t.Kids}}
	}
	return nil
}

// inExpr: what is in an expression that stands at a level.
func inExpr(x api.Expr, level int) []shelf[api.Expr] {
	switch x.Kind {
	case api.Part, api.Deref, api.Lend, api.New, api.Row, api.Call:
		return []shelf[api.Expr]{{level + 1, x.Kids}}
	case api.Oper:
		return inOper(x, level)
	}
	return nil
}

// inOper: what is in an operation that stands at a level.
func inOper(x api.Expr, level int) []shelf[api.Expr] {
	out := []shelf[api.Expr]{{level + 1, nil}} // also without a kid it is one deeper than it stands
	for i := range x.Kids {
		kid := shelf[api.Expr]{level + 1, x.Kids[i : i+1]}
		if inParens(x, i) {
			kid.level++
		}
		out = append(out, kid)
	}
	return out
}

// inStmt: the statements in one that stands at a level; its expressions are shown to the gauge.
func (g *gauge) inStmt(s api.Stmt, level int) []shelf[api.Stmt] {
	sound(g, shelf[api.Expr]{level + 1, []api.Expr{s.Place, s.Expr}}, inExpr)
	return []shelf[api.Stmt]{{level + 1, s.Then}, {level + 1, s.Else}}
}

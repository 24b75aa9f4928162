package names

import "lienbook/api"

// scope is what is known at a place in a function: how many Params each function ahead has, and which names are in scope.
type scope struct {
	ahead map[string]int
	vars  map[string]bool
}

// within: a scope that begins as this one, and whose Lets this one doesn't learn of.
func (in scope) within() scope {
	vars := map[string]bool{}
	for name := range in.vars {
		vars[name] = true
	}
	return scope{in.ahead, vars}
}

// stmts: are the names in statements as they may be? What they Let is in scope from there on.
func (in scope) stmts(list []api.Stmt) bool {
	for _, s := range list {
		if !in.stmt(s) {
			return false
		}
	}
	return true
}

func (in scope) stmt(s api.Stmt) bool {
	if !in.expr(s.Expr) {
		return false
	}
	switch s.Kind {
	case api.Let:
		return in.let(s.Name)
	case api.Set:
		return in.expr(s.Place)
	}
	return in.within().stmts(s.Then) && in.within().stmts(s.Else)
}

// let takes a name into scope; may it be a Let's?
func (in scope) let(name string) bool {
	may := !in.vars[name]
	in.vars[name] = true
	return may
}

// expr: are the names in an expression as they may be?
func (in scope) expr(x api.Expr) bool {
	for _, kid := range x.Kids {
		if !in.expr(kid) {
			return false
		}
	}
	switch x.Kind {
	case api.Var:
		return in.vars[x.Name]
	case api.Call:
		params, known := in.ahead[x.Name]
		return known && params == len(x.Kids)
	}
	return true
}

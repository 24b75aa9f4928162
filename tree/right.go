package tree

import (
	"lienbook/api"
	"lienbook/lex"
	"lienbook/words"
)

const maxLit = 1e18 - 1 // the greatest number of 18 digits

// typeAsks is what a kind of type asks of each thing that a type may have.
type typeAsks struct {
	life        func(string) bool
	mut         func(bool) bool
	least, most int // kids
}

// exprAsks is what a kind of expression asks of each thing that an expression may have.
type exprAsks struct {
	num         func(int64) bool
	name        func(string) bool
	mut         func(bool) bool
	kid         func(api.Expr) bool
	least, most int // kids
}

// stmtAsks is what a kind of statement asks of each thing that a statement may have, but for Expr, that each kind has.
type stmtAsks struct {
	name      func(string) bool
	place     func(api.Expr) bool
	then, els func([]api.Stmt) bool
}

// typeKinds: what each kind of type asks, at its number.
func typeKinds() [api.Ref + 1]typeAsks {
	return [...]typeAsks{
		api.Int:   {none[string], none[bool], 0, 0},
		api.Box:   {none[string], none[bool], 1, 1},
		api.Tuple: {none[string], none[bool], 2, api.MaxList},
		api.Ref:   {isName, either, 1, 1},
	}
}

// exprKinds: what each kind of expression asks, at its number.
func exprKinds() [api.Call + 1]exprAsks {
	return [...]exprAsks{
		api.Lit:   {isLit, none[string], none[bool], rightExpr, 0, 0},
		api.Var:   {none[int64], isName, none[bool], rightExpr, 0, 0},
		api.Part:  {isPart, none[string], none[bool], rightPlace, 1, 1},
		api.Deref: {none[int64], none[string], none[bool], rightPlace, 1, 1},
		api.Lend:  {none[int64], none[string], either, rightPlace, 1, 1},
		api.New:   {none[int64], none[string], none[bool], rightExpr, 1, 1},
		api.Row:   {none[int64], none[string], none[bool], rightExpr, 2, api.MaxList},
		api.Oper:  {none[int64], isOper, none[bool], rightExpr, 2, 2},
		api.Call:  {none[int64], isName, none[bool], rightExpr, 0, api.MaxList},
	}
}

// stmtKinds: what each kind of statement asks, at its number.
func stmtKinds() [api.Repeat + 1]stmtAsks {
	return [...]stmtAsks{
		api.Let:    {isName, noExpr, noStmts, noStmts},
		api.Set:    {none[string], rightPlace, noStmts, noStmts},
		api.If:     {none[string], noExpr, rightStmts, rightStmts},
		api.Repeat: {none[string], noExpr, rightStmts, noStmts},
	}
}

func rightFn(f api.Fn) bool {
	return isName(f.Name) &&
		every(f.Lives, isName) &&
		every(f.Params, rightParam) &&
		rightType(f.Gives) &&
		every(f.Outs, isName) && len(f.Outs)%2 == 0 &&
		rightStmts(f.Body) && loops(f.Body) <= api.MaxLoops &&
		rightExpr(f.Value)
}

func rightParam(p api.Param) bool { return isName(p.Name) && rightType(p.Type) }

func rightType(t api.Type) bool {
	kinds := typeKinds()
	asks, ok := at(kinds[:], t.Kind)
	return ok &&
		asks.life(t.Life) && asks.mut(t.Mut) &&
		asks.least <= len(t.Kids) && len(t.Kids) <= asks.most &&
		every(t.Kids, rightType)
}

func rightExpr(x api.Expr) bool {
	kinds := exprKinds()
	asks, ok := at(kinds[:], x.Kind)
	return ok &&
		asks.num(x.Num) && asks.name(x.Name) && asks.mut(x.Mut) &&
		asks.least <= len(x.Kids) && len(x.Kids) <= asks.most &&
		every(x.Kids, asks.kid)
}

func rightPlace(x api.Expr) bool {
	switch x.Kind {
	case api.Var, api.Part, api.Deref:
		return rightExpr(x)
	}
	return false
}

func rightStmts(list []api.Stmt) bool { return every(list, rightStmt) }

func rightStmt(s api.Stmt) bool {
	kinds := stmtKinds()
	asks, ok := at(kinds[:], s.Kind)
	return ok &&
		asks.name(s.Name) && asks.place(s.Place) && rightExpr(s.Expr) &&
		asks.then(s.Then) && asks.els(s.Else)
}

// loops: how many Repeats stand in one another.
func loops(list []api.Stmt) int {
	most := 0
	for _, s := range list {
		n := max(loops(s.Then), loops(s.Else))
		if s.Kind == api.Repeat {
			n++
		}
		most = max(most, n)
	}
	return most
}

// every: is a list no longer than lists may be, and each of its things as ok asks?
func every[T any](list []T, ok func(T) bool) bool {
	if len(list) > api.MaxList {
		return false
	}
	for _, x := range list {
		if !ok(x) {
			return false
		}
	}
	return true
}

// at: what a kind asks, if there is such a kind.
func at[T any](kinds []T, kind int) (asks T, ok bool) {
	if kind < 1 || kind >= len(kinds) {
		return asks, false
	}
	return kinds[kind], true
}

// none: is there nothing?
func none[T comparable](x T) bool {
	var nothing T
	return x == nothing
}

func either(bool) bool { return true }

func noExpr(x api.Expr) bool {
	return none(x.Kind) && none(x.Num) && none(x.Name) && none(x.Mut) && len(x.Kids) == 0
}

func noStmts(list []api.Stmt) bool { return len(list) == 0 }

func isLit(n int64) bool { return 0 <= n && n <= maxLit }

func isPart(n int64) bool { return 0 <= n && n < api.MaxList }

func isOper(s string) bool {
	switch s {
	case "+", "-", "*", "/", "<", "==":
		return true
	}
	return false
}

func isName(s string) bool {
	if len(s) > api.MaxName {
		return false
	}
	tokens, err := lex.Lex(s)
	// A token's text that is all of s leaves no room for blank, nor for another token.
	return err == nil && len(tokens) > 0 && tokens[0].Kind == api.Word && tokens[0].Text == s && !words.IsKept(s)
}

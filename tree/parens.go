package tree

import "lienbook/api"

// How strong expressions are, from the weakest on.
const (
	_ = iota
	comparing
	adding
	multiplying
	noOper
)

// inParens: does the i-th kid of a Part, a New or an Oper stand in parentheses?
func inParens(x api.Expr, i int) bool {
	kid := x.Kids[i]
	switch x.Kind {
	case api.Part:
		return kid.Kind == api.Deref
	case api.New:
		return kid.Kind == api.Oper
	case api.Oper:
		return inOperParens(strength(x), strength(kid), i)
	}
	return false
}

// inOperParens: does the i-th kid of an operation stand in parentheses, both being so strong?
func inOperParens(whole, kid, i int) bool {
	switch {
	case i > 1: // the text has two kids, whatever the tree has
		return false
	case whole == comparing:
		return kid == comparing
	case i == 0:
		return kid < whole
	}
	return kid <= whole
}

func strength(x api.Expr) int {
	if x.Kind != api.Oper {
		return noOper
	}
	switch x.Name {
	case "<", "==":
		return comparing
	case "+", "-":
		return adding
	case "*", "/":
		return multiplying
	}
	return noOper
}

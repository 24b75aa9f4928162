package step

import (
	"lienbook/api"
	"lienbook/names"
	"lienbook/tree"
)

// areKnown: are they a program that is right, of types that are whole?
func areKnown(ahead []api.Fn) bool {
	if !tree.Right(ahead) {
		return false
	}
	for _, f := range ahead {
		for _, p := range f.Params {
			if !names.Whole(p.Type) {
				return false
			}
		}
		if !names.Whole(f.Gives) {
			return false
		}
	}
	return true
}

// rightExpr: is an expression right, and no deeper than MaxNest?
func rightExpr(x api.Expr) bool {
	// A function is as deep as its value, if that is all that it has.
	return tree.Right([]api.Fn{{Name: "f", Gives: api.Type{Kind: api.Int}, Value: x}})
}

// rightPlace: is it a place as well?
func rightPlace(x api.Expr) bool {
	switch x.Kind {
	case api.Var, api.Part, api.Deref:
		return rightExpr(x)
	}
	return false
}

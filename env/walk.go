package env

import (
	"iter"

	"lienbook/api"
	"lienbook/walk"
)

// part is a part of a type, and whether it stands in a Box or a Ref.
type part struct {
	ty     *api.Ty
	inside bool
}

// pair is the parts of two types that stand at one place in them.
type pair struct {
	a, b *api.Ty
}

// parts: all parts of a type.
func parts(t *api.Ty) iter.Seq[part] { return walk.All(part{t, false}, part.kids) }

// pairs: all pairs of parts of two types, as long as each pair fits.
func pairs(a, b *api.Ty) iter.Seq[pair] { return walk.All(pair{a, b}, pair.kids) }

func (x part) kids() []part {
	inside := x.inside || x.ty.Kind == api.Box || x.ty.Kind == api.Ref
	out := make([]part, len(x.ty.Kids))
	for i := range out {
		out[i] = part{&x.ty.Kids[i], inside}
	}
	return out
}

// kids: both have as many, as x fits.
func (x pair) kids() []pair {
	out := make([]pair, len(x.a.Kids))
	for i := range out {
		out[i] = pair{&x.a.Kids[i], &x.b.Kids[i]}
	}
	return out
}

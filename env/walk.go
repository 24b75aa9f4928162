package env

import (
	"iter"

	"lienbook/api"
)

// part is a part of a type, and whether it stands in a Box or a Ref.
type part struct {
	ty     *api.Ty
	inside bool
}

// pair is the parts of two types that stand at one place in them.
type pair struct {
	a, b *api.Ty
}

// parts: all parts of a type.
func parts(t *api.Ty) iter.Seq[part] { return walk(part{t, false}, part.kids) }

// pairs: all pairs of parts of two types, as long as each pair fits.
func pairs(a, b *api.Ty) iter.Seq[pair] { return walk(pair{a, b}, pair.kids) }

// walk: a thing, and all that is in it. A thing's kids are asked for behind its turn, so that one who ranges may end ahead of them, or give it others. It doesn't call itself, as a type may be deeper than calls may.
func walk[T any](whole T, kids func(T) []T) iter.Seq[T] {
	return func(yield func(T) bool) {
		work := []T{whole}
		for len(work) > 0 {
			last := work[len(work)-1]
			work = work[:len(work)-1]
			if !yield(last) {
				return
			}
			work = append(work, kids(last)...)
		}
	}
}

func (x part) kids() []part {
	inside := x.inside || x.ty.Kind == api.Box || x.ty.Kind == api.Ref
	out := make([]part, len(x.ty.Kids))
	for i := range out {
		out[i] = part{&x.ty.Kids[i], inside}
	}
	return out
}

// kids: both have as many, as x fits.
func (x pair) kids() []pair {
	out := make([]pair, len(x.a.Kids))
	for i := range out {
		out[i] = pair{&x.a.Kids[i], &x.b.Kids[i]}
	}
	return out
}

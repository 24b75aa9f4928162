package step

import (
	"iter"
	"slices"

	"lienbook/api"
	"lienbook/walk"
)

// parts: all parts of a type.
func parts(t *api.Ty) iter.Seq[*api.Ty] { return walk.All(t, kids) }

func kids(t *api.Ty) []*api.Ty {
	out := make([]*api.Ty, len(t.Kids))
	for i := range out {
		out[i] = &t.Kids[i]
	}
	return out
}

// twin is a part of a type as it is written, and the one at the same place in a type with loans.
type twin struct {
	written *api.Type
	ty      *api.Ty
}

// twins: all pairs of parts of two types that are alike, or are made so meanwhile.
func twins(t *api.Type, ty *api.Ty) iter.Seq[twin] { return walk.All(twin{t, ty}, twin.kids) }

func (x twin) kids() []twin {
	out := make([]twin, len(x.ty.Kids))
	for i := range out {
		out[i] = twin{&x.written.Kids[i], &x.ty.Kids[i]}
	}
	return out
}

// refs: those of the twins that are references.
func refs(t *api.Type, ty *api.Ty) iter.Seq[twin] {
	return func(yield func(twin) bool) {
		for x := range twins(t, ty) {
			if isRef(x.ty) && !yield(x) {
				return
			}
		}
	}
}

// some: is a part of a type so?
func some(t *api.Ty, is func(*api.Ty) bool) bool {
	for x := range parts(t) {
		if is(x) {
			return true
		}
	}
	return false
}

func isRef(t *api.Ty) bool { return t.Kind == api.Ref }

func isGone(t *api.Ty) bool { return t.Gone }

// size: how many parts a type has.
func size(t *api.Ty) int {
	n := 0
	for range parts(t) {
		n++
	}
	return n
}

// own: a type, its lists in memory of their own.
func own(t api.Ty) api.Ty {
	for x := range parts(&t) {
		x.Loans = ownLoans(x.Loans)
		x.Kids = slices.Clone(x.Kids)
	}
	return t
}

func ownLoans(list []api.Loan) []api.Loan {
	out := slices.Clone(list)
	for i := range out {
		steps := &out[i].Place.Steps
		*steps = slices.Clone(*steps)
	}
	return out
}

func ownBinds(e []api.Bind) []api.Bind {
	out := slices.Clone(e)
	for i := range out {
		out[i].Ty = own(out[i].Ty)
	}
	return out
}

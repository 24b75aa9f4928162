package step

import (
	"iter"
	"slices"

	"lienbook/api"
	"lienbook/walk"
)

// deref is the step to what a Box, or a Ref, points to.
const deref = -1

// spot is an expression's place, its type there, and the Ref that it passes, if it does.
type spot struct {
	place api.Place
	ty    *api.Ty
	ref   *api.Ty
}

// find: the spot of an expression that is a place.
func (s *state) find(x api.Expr) spot {
	if x.Kind == api.Var {
		return spot{place: api.Place{Var: x.Name}, ty: s.last(x.Name)}
	}
	at := s.find(x.Kids[0])
	if x.Kind == api.Part {
		return at.part(int(x.Num))
	}
	return at.pointed()
}

// last: the type of the last bind of a name.
func (s *state) last(name string) *api.Ty {
	for i, b := range slices.Backward(s.known) {
		if b.Name == name {
			return &s.known[i].Ty
		}
	}
	panic(api.BadName)
}

// part: that part of the tuple at a spot.
func (at spot) part(n int) spot {
	if at.ty.Kind != api.Tuple || n >= len(at.ty.Kids) {
		panic(api.BadShape)
	}
	return at.step(n, n)
}

// pointed: what the box, or the reference, at a spot points to.
func (at spot) pointed() spot {
	switch {
	case at.ty.Kind != api.Box && at.ty.Kind != api.Ref:
		panic(api.BadShape)
	case at.ty.Gone:
		panic(api.Gone)
	case at.ty.Kind == api.Ref:
		at.ref = at.ty
	}
	return at.step(deref, 0)
}

// step: the spot of a kid, one step more.
func (at spot) step(step, kid int) spot {
	at.place.Steps = append(at.place.Steps, step)
	at.ty = &at.ty.Kids[kid]
	return at
}

// derefs: has the place a Deref?
func (at spot) derefs() bool { return slices.Contains(at.place.Steps, deref) }

// shared: does the place pass a reference that may not be written through?
func (at spot) shared() bool { return at.ref != nil && !at.ref.Mut }

// twig is a part of a tuple, or of a tuple in that: how many tuples it stands in, and which part of the last one it is.
type twig struct {
	ty          *api.Ty
	level, step int
}

func (x twig) kids() []twig {
	if x.ty.Kind != api.Tuple {
		return nil
	}
	out := make([]twig, len(x.ty.Kids))
	for i := range out {
		out[i] = twig{&x.ty.Kids[i], x.level + 1, i}
	}
	return out
}

// leaves: those at a spot, in order, with their places, each one good till the next one is asked for: of a type that is very deep, places of their own would be too much to hold.
func (at spot) leaves() iter.Seq2[api.Place, *api.Ty] {
	return func(yield func(api.Place, *api.Ty) bool) {
		p := api.Place{Var: at.place.Var, Steps: slices.Clone(at.place.Steps)}
		for x := range walk.All(twig{ty: at.ty}, twig.kids) {
			if x.level > 0 {
				p.Steps = append(p.Steps[:len(at.place.Steps)+x.level-1], x.step)
			}
			if x.ty.Kind != api.Tuple && !yield(p, x.ty) {
				return
			}
		}
	}
}

// moves: does a leaf move?
func moves(t *api.Ty) bool { return t.Kind == api.Box || t.Kind == api.Ref && t.Mut }

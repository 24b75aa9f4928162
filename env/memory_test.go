package env_test

import (
	"reflect"
	"slices"
	"testing"

	"lienbook/api"
	"lienbook/env"
)

// roomy is an environment whose lists have spare room, that has something in it.
func roomy(mut bool) []api.Bind {
	steps := []int{0, 1, 2, 3}
	loans := []api.Loan{{Place: api.Place{Var: "x", Steps: steps[:2]}}, {Place: api.Place{Var: "y", Steps: steps[1:3]}, Mut: mut}, life("a"), lent("spare", 7)}
	kids := []api.Ty{mutRef(integer), gone(box(integer)), box(tuple(integer, integer)), mutRef(integer, lent("spare"))}
	kids[0].Loans = loans[:3]
	return []api.Bind{{Name: "t", Ty: tuple(kids[:3]...)}, {Name: "r", Ty: ref(integer, loans[:1]...)}, {Name: "spare", Ty: integer}}[:2]
}

// whole is an environment with all that stands in its lists' spare room.
func whole(e []api.Bind) []api.Bind {
	out := slices.Clone(e[:cap(e)])
	for i := range out {
		out[i].Ty = wholeType(out[i].Ty)
	}
	return out
}

func wholeType(t api.Ty) api.Ty {
	t.Loans = slices.Clone(t.Loans[:cap(t.Loans)])
	for i := range t.Loans {
		steps := &t.Loans[i].Place.Steps
		*steps = slices.Clone((*steps)[:cap(*steps)])
	}
	t.Kids = slices.Clone(t.Kids[:cap(t.Kids)])
	for i := range t.Kids {
		t.Kids[i] = wholeType(t.Kids[i])
	}
	return t
}

func TestNothingIsChanged(t *testing.T) {
	a, b := roomy(true), roomy(false)
	wantA, wantB := whole(a), whole(b)
	j, e := env.Join(a, b)
	if e != nil || len(j) != 2 {
		t.Fatalf("P5.2: %v, %v", j, e)
	}
	env.Less(a, b)
	env.Right(a)
	env.Fits(a[0].Ty, b[0].Ty)
	env.Hit(a, place("x"), true)
	env.Overlap(a[1].Ty.Loans[0].Place, b[1].Ty.Loans[0].Place)
	env.Cmp(a[1].Ty.Loans[0], b[1].Ty.Loans[0])
	if !reflect.DeepEqual(whole(a), wantA) || !reflect.DeepEqual(whole(b), wantB) {
		t.Errorf("rule 3: %v and %v were changed", a, b)
	}
	// Nor by what is done to the answer.
	spill(j)
	if !reflect.DeepEqual(whole(a), wantA) || !reflect.DeepEqual(whole(b), wantB) {
		t.Errorf("rule 3: the answer has memory of %v or %v", a, b)
	}
}

// spill writes over all that an environment's lists have, and over their spare room.
func spill(e []api.Bind) {
	e = e[:cap(e)]
	for i := range e {
		spillType(&e[i].Ty)
		e[i] = api.Bind{Name: "spilt"}
	}
}

func spillType(t *api.Ty) {
	kids, loans := t.Kids[:cap(t.Kids)], t.Loans[:cap(t.Loans)]
	for i := range loans {
		steps := loans[i].Place.Steps
		steps = steps[:cap(steps)]
		for k := range steps {
			steps[k] = -77
		}
		loans[i] = life("spilt")
	}
	for i := range kids {
		spillType(&kids[i])
		kids[i] = api.Ty{Kind: -77}
	}
}

// TestNoTwoListsShare joins an environment with itself, of types that share what they have.
func TestNoTwoListsShare(t *testing.T) {
	steps := []int{1, 2}
	loans := []api.Loan{{Place: api.Place{Var: "x", Steps: steps}}, {Place: api.Place{Var: "y", Steps: steps}}}
	in := []api.Ty{ref(integer, loans...), box(integer)}
	a := known(tuple(in...), tuple(in...), ref(integer, loans...))
	want := whole(a)
	for n := range 3 {
		j, e := env.Join(a, a)
		if e != nil || !same(j, a) {
			t.Fatalf("P5.2: %v, %v", j, e)
		}
		spillType(&j[n].Ty)
		for i := range j {
			if i != n && !sameType(j[i].Ty, want[i].Ty) {
				t.Errorf("rule 3: %d has memory of %d: %v", i, n, j)
			}
		}
	}
	j, _ := env.Join(a, a)
	j[2].Ty.Loans[0].Place.Steps[0] = 9
	if !slices.Equal(j[2].Ty.Loans[1].Place.Steps, steps) {
		t.Errorf("rule 3: two loans share their steps: %v", j[2].Ty.Loans)
	}
	if !reflect.DeepEqual(whole(a), want) {
		t.Errorf("rule 3: %v was changed", a)
	}
}

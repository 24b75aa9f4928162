package env_test

import (
	"errors"
	"slices"
	"testing"

	"lienbook/api"
	"lienbook/env"
)

// wantRight asks whether an environment is right; of one that isn't, there is no join, and nothing is at most it.
func wantRight(t *testing.T, what any, e []api.Bind, want bool) {
	t.Helper()
	if got := env.Right(e); got != want {
		t.Errorf("P5.2: %v: right: %v, want %v", what, got, want)
	}
	if got := env.Less(e, e); got != want {
		t.Errorf("P5.2: %v: at most itself: %v, want %v", what, got, want)
	}
	j, err := env.Join(e, e)
	if want && err != nil || !want && (!errors.Is(err, api.BadShape) || len(j) != 0) {
		t.Errorf("P5.2: %v: its join with itself: %s, %v", what, brief(j), err)
	}
}

// wantRightType asks it of an environment that has the type, wherever it stands.
func wantRightType(t *testing.T, what any, x api.Ty, want bool) {
	t.Helper()
	wantRight(t, what, known(x), want)
	wantRight(t, what, known(integer, box(integer), x), want)
	wantRight(t, what, known(x, integer), want)
	wantRight(t, what, known(tuple(integer, tuple(x, integer))), want)
}

func TestRightTypes(t *testing.T) {
	for i, x := range []api.Ty{
		integer, box(integer), gone(box(integer)), box(box(integer)), gone(box(box(integer))), box(tuple(integer, box(integer))),
		tuple(integer, integer), tuple(gone(box(integer)), integer), tuple(integer, gone(mutRef(integer))), tuple(many(30, ref(integer, lent("x")))...),
		ref(integer), mutRef(integer), gone(mutRef(integer)), gone(mutRef(integer, lent("x"), life("a"))), ref(box(tuple(integer, integer))), mutRef(tuple(box(integer), box(box(integer)))),
		ref(integer, pool()...), mutRef(integer, pool()...),
		// Any name, and any steps; a loan with nothing is of a place.
		ref(integer, api.Loan{}), ref(integer, api.Loan{Mut: true}), ref(integer, lent("", -9), lent("\xff", 1<<40)), ref(integer, life(" "), life("fn"), life("\xff")),
		// Of these rising and falling would be one, but for what comes last.
		ref(integer, lent("x"), mutLent("x")), ref(integer, lent("x"), lent("x", 0)), ref(integer, mutLent("x"), lent("x", -1)), ref(integer, mutLent("y", 5), life("a")), ref(integer, life("a"), life("aa")),
		// Lists without elements.
		{Kind: api.Int, Kids: []api.Ty{}, Loans: []api.Loan{}}, {Kind: api.Box, Loans: []api.Loan{}, Kids: []api.Ty{integer}},
		ref(integer, api.Loan{Life: "a", Place: api.Place{Steps: []int{}}}),
	} {
		wantRightType(t, i, x, true)
	}
}

func TestTypesThatAreNotRight(t *testing.T) {
	for i, x := range []api.Ty{
		{}, box(api.Ty{}), tuple(integer, api.Ty{}), ref(api.Ty{}),
		tuple(), tuple(integer), tuple(many(31, integer)...), tuple(many(1000, integer)...), gone(tuple(integer, integer)),
		{Kind: api.Box}, {Kind: api.Box, Kids: many(2, integer)}, {Kind: api.Ref}, {Kind: api.Ref, Kids: many(2, integer)}, {Kind: api.Ref, Mut: true, Kids: many(30, integer)},
		gone(ref(integer)), gone(ref(integer, lent("x"))),
		// In a Box or a Ref there is no Ref.
		box(ref(integer)), box(mutRef(integer)), ref(ref(integer)), mutRef(ref(integer)), ref(mutRef(integer)), box(box(ref(integer))), box(tuple(integer, ref(integer))), ref(tuple(ref(integer), integer)), ref(box(ref(integer))), box(tuple(integer, tuple(integer, box(mutRef(integer))))),
		// And nothing is Gone.
		box(gone(box(integer))), ref(gone(box(integer))), mutRef(gone(box(integer))), gone(mutRef(gone(box(integer)))), gone(box(gone(box(integer)))), box(box(gone(box(integer)))), box(tuple(gone(box(integer)), integer)), mutRef(tuple(integer, tuple(integer, box(gone(box(integer)))))),
		// Loans that don't rise, or are alike.
		ref(integer, lent("y"), lent("x")), ref(integer, lent("x"), lent("x")), ref(integer, mutLent("x"), lent("x")), ref(integer, mutLent("x", 1), mutLent("x", 1)), ref(integer, lent("x", 0), lent("x", -1)), ref(integer, lent("x", 0), lent("x")), ref(integer, life("a"), lent("x")), ref(integer, life("b"), life("a")), ref(integer, life("a"), life("a")),
		ref(integer, lent("a"), lent("b"), lent("b")), ref(integer, lent("a"), lent("c"), lent("b"), lent("d")), ref(integer, lent("b"), lent("a"), lent("c")), ref(integer, api.Loan{}, api.Loan{}), mutRef(integer, lent("a"), lent("b"), lent("a")),
		// Loans that are none.
		ref(integer, api.Loan{Life: "a", Mut: true}), ref(integer, api.Loan{Life: "a", Place: place("x")}), ref(integer, api.Loan{Life: "a", Place: place("", 0)}), ref(integer, lent("x"), life("a"), api.Loan{Life: "b", Place: place("x", -1), Mut: true}), mutRef(integer, api.Loan{Life: "a", Place: place("", -1, 0)}, life("b")),
	} {
		wantRightType(t, i, x, false)
	}
}

// TestWhatEachKindMayHave asks it of each kind with each number of kids, with and without each other thing.
func TestWhatEachKindMayHave(t *testing.T) {
	for _, kind := range append(oddKinds, api.Int, api.Box, api.Tuple, api.Ref) {
		for kids := range 33 {
			for n := range 8 {
				x := api.Ty{Kind: kind, Mut: n&1 > 0, Gone: n&2 > 0, Kids: many(kids, integer)}
				if n&4 > 0 {
					x.Loans = []api.Loan{lent("x"), life("a")}
				}
				want := false
				switch kind {
				case api.Int:
					want = kids == 0 && n == 0
				case api.Box:
					want = kids == 1 && (n == 0 || n == 2)
				case api.Tuple:
					want = 2 <= kids && kids <= 30 && n == 0
				case api.Ref:
					want = kids == 1 && n != 2 && n != 6
				}
				wantRight(t, x, known(x), want)
			}
		}
	}
}

func TestRightEnvironments(t *testing.T) {
	wantRight(t, "nothing", nil, true)
	wantRight(t, "nothing", []api.Bind{}, true)
	for _, name := range []string{"", "1", "fn", "a b", "\xff", "'a"} {
		wantRight(t, name, bind(name, integer), true)
		wantRight(t, name, bind(name, api.Ty{}), false)
	}
	wantRight(t, "one name twice", append(bind("x", integer), bind("x", box(integer))...), true)
	wantRight(t, "loans of what isn't there", bind("x", ref(integer, mutLent("y", 3), life("z"))), true)
	for at := range 5 {
		e := known(integer, box(integer), mutRef(integer, pool()...), tuple(integer, integer), integer)
		wantRight(t, at, e, true)
		e[at].Ty = gone(integer)
		wantRight(t, at, e, false)
	}
}

func TestRightWhateverTheSize(t *testing.T) {
	const n = 300_000
	pair := func(t api.Ty) api.Ty { return tuple(integer, t) }
	wantRight(t, "Boxes", known(times(n, integer, box)), true)
	wantRight(t, "Boxes in a Ref that is gone", known(gone(mutRef(times(n, integer, box)))), true)
	wantRight(t, "Boxes that are gone, of a Box", known(gone(times(n, integer, box))), true)
	wantRight(t, "Boxes of a Ref", known(times(n, ref(integer), box)), false)
	wantRight(t, "Boxes of one that is gone", known(times(n, gone(box(integer)), box)), false)
	wantRight(t, "Boxes of nothing", known(times(n, api.Ty{}, box)), false)
	wantRight(t, "Tuples", known(times(n, gone(mutRef(integer, lent("x"))), pair)), true)
	wantRight(t, "Tuples in a Box", known(box(times(n, ref(integer), pair))), false)
	wantRight(t, "binds", many(n, api.Bind{Name: "x", Ty: box(integer)}), true)
	wantRight(t, "binds", append(many(n, api.Bind{Name: "x", Ty: integer}), api.Bind{}), false)
	var loans []api.Loan
	for i := range n {
		loans = append(loans, lent("x", i))
	}
	wantRight(t, "loans", known(ref(integer, loans...)), true)
	wantRight(t, "loans", known(ref(integer, append(loans, lent("x", n-1))...)), false)
}

// rightByWords is whether a type is right, by another way, as the chapter's words go.
func rightByWords(t api.Ty) bool {
	plain := !t.Mut && !t.Gone && len(t.Loans) == 0
	ok := false
	switch t.Kind {
	case api.Int:
		ok = plain && len(t.Kids) == 0
	case api.Box:
		plain = !t.Mut && len(t.Loans) == 0
		ok = plain && len(t.Kids) == 1 && !anywhere(t.Kids, isRefOrGone)
	case api.Tuple:
		ok = plain && 2 <= len(t.Kids) && len(t.Kids) <= 30
	case api.Ref:
		ok = (t.Mut || !t.Gone) && len(t.Kids) == 1 && !anywhere(t.Kids, isRefOrGone)
	}
	for i, l := range t.Loans {
		ok = ok && (l.Life == "" || cmpByWords(l, life(l.Life)) == 0)
		for _, k := range t.Loans[:i] {
			ok = ok && cmpByWords(k, l) < 0
		}
	}
	return ok && !slices.ContainsFunc(t.Kids, func(kid api.Ty) bool { return !rightByWords(kid) })
}

func isRefOrGone(t api.Ty) bool { return t.Kind == api.Ref || t.Gone }

func anywhere(list []api.Ty, is func(api.Ty) bool) bool {
	return slices.ContainsFunc(list, func(t api.Ty) bool { return is(t) || anywhere(t.Kids, is) })
}

func TestAnyTypeIsRightOrNot(t *testing.T) {
	r := newRoll(53)
	right := 0
	for n := 0; n < 30000 && !t.Failed(); n++ {
		x := r.learn(r.shape(3, false), 3, false)
		wantRight(t, x, known(x), true)
		r.spoil(&x)
		want := rightByWords(x)
		wantRight(t, x, known(x), want)
		if want {
			right++
		}
		y := r.anyType(2)
		wantRight(t, y, known(y), rightByWords(y))
	}
	if right < 3000 || right > 27000 {
		t.Errorf("%d types of 30000 are right", right)
	}
}

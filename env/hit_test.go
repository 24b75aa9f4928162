package env_test

import (
	"testing"

	"lienbook/api"
	"lienbook/env"
)

// wantHit asks whether a place is hit by reading, and whether by writing.
func wantHit(t *testing.T, what any, e []api.Bind, p api.Place, read, write bool) {
	t.Helper()
	if got := env.Hit(e, p, false); got != read {
		t.Errorf("P5.1: %v: %v by reading: %v, want %v", what, p, got, read)
	}
	if got := env.Hit(e, p, true); got != write {
		t.Errorf("P5.1: %v: %v by writing: %v, want %v", what, p, got, write)
	}
}

func TestHitPlaces(t *testing.T) {
	e := known(
		integer,
		ref(integer, lent("x", 0), life("y")),
		tuple(integer, tuple(box(integer), mutRef(integer, mutLent("y", -1), mutLent("z"))), ref(integer)),
		gone(mutRef(integer, mutLent("w"))),
		mutRef(integer, lent("v")),
		ref(integer, mutLent("u", 1)),
	)
	for _, x := range []struct {
		place       api.Place
		read, write bool
	}{
		{place("x"), false, true}, {place("x", 0), false, true}, {place("x", 0, -1, 3), false, true}, {place("x", 1), false, false}, {place("x", -1), false, false}, {place("X"), false, false},
		{place("y"), true, true}, {place("y", -1), true, true}, {place("y", -1, 0), true, true}, {place("y", 0), false, false},
		{place("z"), true, true}, {place("z", 4, 4), true, true},
		// What is gone still has its loans.
		{place("w"), true, true}, {place("w", -1), true, true},
		// It is the Loan's Mut that counts, not the Ref's.
		{place("v"), false, true}, {place("u"), true, true}, {place("u", 0), false, false},
		// The names of binds are of no account.
		{place("a"), false, false}, {place("b"), false, false}, {place("b", -1), false, false}, {place(""), false, false}, {place("s"), false, false},
	} {
		wantHit(t, "an environment", e, x.place, x.read, x.write)
	}
	wantHit(t, "nothing", nil, place("x"), false, false)
	wantHit(t, "nothing", []api.Bind{}, place(""), false, false)
	wantHit(t, "a bind without a name", bind("", ref(integer, mutLent("", 1))), place(""), true, true)
	wantHit(t, "the place with no name", known(ref(integer, api.Loan{})), place("", 1), false, true)
	// Lives lend no place.
	wantHit(t, "a life", known(ref(integer, life("x"))), place("x"), false, false)
	wantHit(t, "a life", known(ref(integer, life("x"))), place(""), false, false)
}

func TestHitInAnyLoanOfAnyBind(t *testing.T) {
	for n := range 4 {
		for k := range 4 {
			loans := []api.Loan{lent("a"), lent("b"), lent("c"), lent("d")}
			loans[k] = mutLent("x", 1)
			types := many(4, box(tuple(integer, integer)))
			types[n] = ref(integer, loans...)
			wantHit(t, n, known(types...), place("x"), true, true)
			wantHit(t, n, known(types...), place("x", 0), false, false)
			kids := known(tuple(tuple(types...), integer))
			wantHit(t, n, kids, place("x", 1, 1), true, true)
			wantHit(t, n, kids, place("x", 0), false, false)
		}
	}
}

func TestHitOfEnvironmentsThatAreNotRight(t *testing.T) {
	x := []api.Loan{mutLent("x")}
	for _, kind := range append(oddKinds, api.Int, api.Box, api.Tuple, api.Ref) {
		in := api.Ty{Kind: kind, Loans: x}
		for _, around := range append(oddKinds, api.Int, api.Box, api.Tuple, api.Ref) {
			wantHit(t, kind, known(in), place("x"), true, true)
			wantHit(t, kind, known(api.Ty{Kind: around, Kids: []api.Ty{in}}), place("x"), true, true)
			wantHit(t, kind, known(api.Ty{Kind: around, Gone: true, Kids: []api.Ty{{}, {}, in}}), place("x", 3), true, true)
			wantHit(t, kind, known(api.Ty{Kind: around, Kids: append(many(50, integer), in)}), place("y"), false, false)
		}
	}
	wantHit(t, "a Ref in a Ref", known(ref(mutRef(integer, mutLent("x"), lent("y")), life("a"))), place("x"), true, true)
	wantHit(t, "loans that fall", known(ref(integer, life("a"), lent("y"), lent("x"), lent("x"))), place("x"), false, true)
	wantHit(t, "a life that has a place", known(ref(integer, api.Loan{Life: "a", Place: place("x"), Mut: true})), place("x"), false, false)
	wantHit(t, "and one that is lent", known(ref(integer, api.Loan{Life: "a", Place: place("x"), Mut: true}, lent("x"))), place("x"), false, true)
}

func TestHitFarIn(t *testing.T) {
	const n = 1_000_000
	in := ref(integer, lent("x", 0))
	pair := func(t api.Ty) api.Ty { return tuple(integer, t) }
	wantHit(t, "Boxes", known(times(n, in, box)), place("x"), false, true)
	wantHit(t, "Tuples", known(times(n, in, pair)), place("x"), false, true)
	wantHit(t, "Tuples", known(times(n, in, pair)), place("x", 1), false, false)
	wantHit(t, "many kids", known(api.Ty{Kids: append(many(n, integer), in)}), place("x"), false, true)
	wantHit(t, "many binds", append(many(n, api.Bind{}), known(in)...), place("x"), false, true)
	wantHit(t, "many loans", known(ref(integer, append(many(n, lent("y")), mutLent("x"))...)), place("x", 5), true, true)
}

// hitByWords is whether a place is hit in a type, by another way: overlapByWords of each loan of all parts.
func hitByWords(t api.Ty, p api.Place, write bool) bool {
	for _, l := range t.Loans {
		if len(l.Life) == 0 && overlapByWords(l.Place, p) && (l.Mut || write) {
			return true
		}
	}
	for _, kid := range t.Kids {
		if hitByWords(kid, p, write) {
			return true
		}
	}
	return false
}

func TestHitInAnyEnvironment(t *testing.T) {
	r := newRoll(52)
	seen := map[[2]bool]int{}
	for n := 0; n < 20000 && !t.Failed(); n++ {
		a, b, p := r.anyType(2), r.anyType(1), r.anyLoan().Place
		read := hitByWords(a, p, false) || hitByWords(b, p, false)
		write := hitByWords(a, p, true) || hitByWords(b, p, true)
		wantHit(t, "any", known(a, b), p, read, write)
		seen[[2]bool{read, write}]++
	}
	if seen[[2]bool{false, false}] < 500 || seen[[2]bool{false, true}] < 500 || seen[[2]bool{true, true}] < 500 {
		t.Errorf("read and written: %v", seen)
	}
}

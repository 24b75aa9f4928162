package env_test

import (
	"errors"
	"slices"
	"testing"

	"lienbook/api"
	"lienbook/env"
)

func wantFits(t *testing.T, what any, a, b api.Ty, want bool) {
	t.Helper()
	if env.Fits(a, b) != want || env.Fits(b, a) != want {
		t.Errorf("P5.2: %v: fits: %v, %v, want %v", what, env.Fits(a, b), env.Fits(b, a), want)
	}
}

func wantLess(t *testing.T, what any, a, b []api.Bind, want bool) {
	t.Helper()
	if got := env.Less(a, b); got != want {
		t.Errorf("P5.2: %s: at most: %v, want %v", brief(what), got, want)
	}
}

// same: are two environments alike, lists that are nil being as those that are empty?
func same(a, b []api.Bind) bool {
	return slices.EqualFunc(a, b, func(x, y api.Bind) bool { return x.Name == y.Name && sameType(x.Ty, y.Ty) })
}

func sameType(a, b api.Ty) bool {
	return a.Kind == b.Kind && a.Mut == b.Mut && a.Gone == b.Gone && slices.EqualFunc(a.Kids, b.Kids, sameType) &&
		slices.EqualFunc(a.Loans, b.Loans, func(x, y api.Loan) bool { return cmpByWords(x, y) == 0 })
}

// wantJoin asks for that join, whichever is the first.
func wantJoin(t *testing.T, what any, a, b, want []api.Bind) {
	t.Helper()
	for _, x := range [][2][]api.Bind{{a, b}, {b, a}} {
		if j, e := env.Join(x[0], x[1]); e != nil || !same(j, want) {
			t.Errorf("P5.2: %s: %s, %v, want %s", brief(what), brief(j), e, brief(want))
		}
	}
	wantLess(t, what, a, want, true)
	wantLess(t, what, b, want, true)
}

// wantNoJoin asks for none, whichever is the first.
func wantNoJoin(t *testing.T, what any, a, b []api.Bind) {
	t.Helper()
	for _, x := range [][2][]api.Bind{{a, b}, {b, a}} {
		if j, e := env.Join(x[0], x[1]); !errors.Is(e, api.BadShape) || len(j) != 0 {
			t.Errorf("P5.2: %s: %s, %v, want BadShape", brief(what), brief(j), e)
		}
		wantLess(t, what, x[0], x[1], false)
	}
}

func TestTypesThatFit(t *testing.T) {
	for i, x := range [][2]api.Ty{
		{integer, integer}, {box(integer), gone(box(integer))}, {ref(integer, lent("x")), ref(integer, life("a"))}, {gone(mutRef(integer)), mutRef(integer, pool()...)},
		{tuple(box(integer), mutRef(tuple(integer, integer))), tuple(gone(box(integer)), gone(mutRef(tuple(integer, integer), lent("x"))))},
		// Of any types.
		{{}, {}}, {{}, gone(api.Ty{})}, {{Kind: 5, Mut: true}, {Kind: 5, Mut: true, Loans: pool()}}, {gone(integer), integer}, {{Kind: api.Int, Mut: true}, {Kind: api.Int, Mut: true}}, {{Kind: -1, Kids: many(2, integer)}, {Kind: -1, Gone: true, Kids: many(2, gone(integer))}},
		{ref(ref(integer, lent("x"))), ref(gone(ref(integer)))}, {tuple(), tuple()}, {ref(integer, lent("y"), lent("x")), ref(integer, lent("z"), lent("z"))}, {{Kind: api.Box, Kids: nil}, {Kind: api.Box, Kids: []api.Ty{}}}, {tuple(many(100, integer)...), tuple(many(100, integer)...)},
	} {
		wantFits(t, i, x[0], x[1], true)
	}
	for i, x := range [][2]api.Ty{
		{integer, box(integer)}, {box(integer), ref(integer)}, {ref(integer), mutRef(integer)}, {tuple(integer, integer), tuple(integer, integer, integer)}, {tuple(integer, integer), box(integer)}, {box(integer), box(box(integer))}, {ref(integer), ref(box(integer))},
		{tuple(integer, box(integer)), tuple(box(integer), integer)}, {tuple(integer, integer, box(integer)), tuple(integer, integer, integer)}, {tuple(integer, tuple(integer, ref(integer))), tuple(integer, tuple(integer, mutRef(integer)))}, {box(tuple(integer, integer)), box(tuple(integer, integer, integer))},
		// Of any types.
		{{}, integer}, {{Kind: 5}, {Kind: 6}}, {{Kind: 5}, {Kind: 5, Mut: true}}, {{Kind: 5}, {Kind: 5, Kids: many(1, integer)}}, {{Kind: api.Int, Mut: true}, integer}, {{Kind: api.Int, Kids: many(1, integer)}, integer}, {{Kind: api.Int, Kids: many(1, integer)}, {Kind: api.Int, Kids: many(1, box(integer))}}, {box(integer), {Kind: api.Box}}, {{Kind: api.Box, Kids: many(2, integer)}, box(integer)}, {tuple(), tuple(integer)}, {ref(ref(integer)), ref(mutRef(integer))},
	} {
		wantFits(t, i, x[0], x[1], false)
		wantNoJoin(t, i, known(x[0]), known(x[1]))
	}
	const n = 300_000
	wantFits(t, "far in", times(n, integer, box), times(n, integer, box), true)
	wantFits(t, "far in", times(n, ref(integer), box), times(n, mutRef(integer), box), false)
	wantFits(t, "one deeper", times(n, integer, box), times(n+1, integer, box), false)
}

func TestWhatIsAtMost(t *testing.T) {
	few, most := mutRef(integer, lent("x"), life("a")), gone(mutRef(integer, pool()...))
	for i, x := range [][2]api.Ty{
		{integer, integer}, {box(integer), gone(box(integer))}, {gone(box(integer)), gone(box(integer))}, {mutRef(integer), gone(mutRef(integer))},
		{ref(integer), ref(integer, lent("x"))}, {ref(integer, lent("x")), ref(integer, lent("x"))}, {ref(integer, lent("x")), ref(integer, lent("x"), lent("y"))}, {ref(integer, lent("y")), ref(integer, lent("x"), lent("y"), lent("z"))}, {ref(integer, life("a")), ref(integer, lent("a"), life("a"))},
		{few, most}, {tuple(few, box(integer), few), tuple(most, box(integer), few)}, {tuple(integer, tuple(few, few)), tuple(integer, tuple(few, most))},
		{ref(integer, api.Loan{Place: api.Place{Var: "x", Steps: []int{}}}), ref(integer, lent("x"))},
	} {
		wantLess(t, i, known(x[0]), known(x[1]), true)
		wantLess(t, i, known(integer, x[0], x[0]), known(integer, x[1], x[1]), true)
	}
	for i, x := range [][2]api.Ty{
		{gone(box(integer)), box(integer)}, {gone(mutRef(integer)), mutRef(integer)}, {gone(mutRef(integer)), mutRef(integer, pool()...)},
		{ref(integer, lent("x")), ref(integer)}, {ref(integer, lent("x")), ref(integer, lent("y"))}, {ref(integer, lent("x")), ref(integer, mutLent("x"))}, {ref(integer, mutLent("x")), ref(integer, lent("x"))}, {ref(integer, lent("x", 0)), ref(integer, lent("x"))}, {ref(integer, lent("x")), ref(integer, lent("x", 0))}, {ref(integer, life("a")), ref(integer, lent("a"))}, {ref(integer, lent("a")), ref(integer, life("a"))}, {ref(integer, life("a")), ref(integer, life("b"))},
		{ref(integer, lent("x"), lent("y")), ref(integer, lent("x"))}, {ref(integer, lent("x"), lent("y")), ref(integer, lent("y"))}, {ref(integer, lent("x"), lent("z")), ref(integer, lent("x"), lent("y"))}, {ref(integer, lent("w"), lent("y")), ref(integer, lent("x"), lent("y"), lent("z"))},
		{most, few}, {tuple(few, most), tuple(most, few)}, {tuple(integer, tuple(few, most)), tuple(integer, tuple(most, few))},
		// One of a kind, however much the other one has.
		{gone(mutRef(integer)), mutRef(integer, pool()...)}, {mutRef(integer, lent("w")), most},
	} {
		wantLess(t, i, known(x[0]), known(x[1]), false)
		wantLess(t, i, known(integer, x[1], x[0]), known(integer, x[1], x[1]), false)
		wantLess(t, i, known(x[0], x[1]), known(x[1], x[1]), false)
	}
}

func TestJoins(t *testing.T) {
	x, y, a := lent("x"), mutLent("y", 0), life("a")
	for i, c := range [][3]api.Ty{
		{integer, integer, integer}, {box(integer), box(integer), box(integer)}, {box(integer), gone(box(integer)), gone(box(integer))}, {gone(box(integer)), gone(box(integer)), gone(box(integer))},
		{mutRef(integer), gone(mutRef(integer)), gone(mutRef(integer))}, {gone(mutRef(integer, x)), mutRef(integer, y), gone(mutRef(integer, x, y))},
		{ref(integer), ref(integer), ref(integer)}, {ref(integer), ref(integer, x), ref(integer, x)}, {ref(integer, x), ref(integer, x), ref(integer, x)}, {ref(integer, x), ref(integer, y), ref(integer, x, y)}, {ref(integer, x, a), ref(integer, y), ref(integer, x, y, a)}, {ref(integer, x, y), ref(integer, y, a), ref(integer, x, y, a)},
		// Loans that overlap stay both, so does one with and without Mut.
		{ref(integer, lent("x")), ref(integer, mutLent("x")), ref(integer, lent("x"), mutLent("x"))}, {ref(integer, lent("x", 0)), ref(integer, lent("x")), ref(integer, lent("x"), lent("x", 0))}, {ref(integer, lent("a")), ref(integer, life("a")), ref(integer, lent("a"), life("a"))},
		{mutRef(box(integer), pool()[:6]...), mutRef(box(integer), pool()[3:]...), mutRef(box(integer), pool()...)}, {ref(integer, pool()[6:]...), ref(integer, pool()[:6]...), ref(integer, pool()...)},
		{tuple(box(integer), ref(integer, x), gone(box(integer))), tuple(gone(box(integer)), ref(integer, a), box(integer)), tuple(gone(box(integer)), ref(integer, x, a), gone(box(integer)))},
		{tuple(integer, tuple(ref(integer, x), mutRef(integer))), tuple(integer, tuple(ref(integer), gone(mutRef(integer, y)))), tuple(integer, tuple(ref(integer, x), gone(mutRef(integer, y))))},
	} {
		wantJoin(t, i, known(c[0]), known(c[1]), known(c[2]))
		wantJoin(t, i, known(c[0], integer, c[1]), known(c[1], integer, c[0]), known(c[2], integer, c[2]))
	}
	wantJoin(t, "nothing", nil, []api.Bind{}, nil)
	// Names may be alike, or none; binds go together by where they stand.
	wantJoin(t, "names", append(bind("", ref(integer, x)), bind("", ref(integer, y))...), append(bind("", ref(integer, a)), bind("", ref(integer))...), append(bind("", ref(integer, x, a)), bind("", ref(integer, y))...))
}

func TestWhatHasNoJoin(t *testing.T) {
	for i, x := range [][2][]api.Bind{
		{nil, known(integer)}, {known(integer), known(integer, integer)}, {known(integer, box(integer)), known(integer)},
		{bind("x", integer), bind("y", integer)}, {bind("x", integer), bind("", integer)}, {bind("x", integer), bind("X", integer)}, {append(bind("x", integer), bind("y", integer)...), append(bind("y", integer), bind("x", integer)...)}, {known(integer, integer), append(bind("a", integer), bind("c", integer)...)},
		{known(box(integer), integer), known(integer, box(integer))}, {known(integer, ref(integer)), known(integer, mutRef(integer))}, {known(integer, box(box(integer)), integer), known(integer, box(integer), integer)},
		// One that isn't right, beside one that is.
		{known(gone(integer)), known(integer)}, {known(ref(integer, lent("y"), lent("x"))), known(ref(integer))}, {known(gone(ref(integer))), known(ref(integer))}, {known(integer, box(gone(box(integer)))), known(integer, box(box(integer)))}, {known(ref(integer, api.Loan{Life: "a", Mut: true})), known(ref(integer, pool()...))}, {known(gone(tuple(integer, integer)), integer), known(tuple(integer, integer), integer)},
		// Two that aren't.
		{known(api.Ty{}), known(api.Ty{})}, {known(ref(ref(integer))), known(ref(ref(integer, lent("x"))))}, {known(tuple(many(31, integer)...)), known(tuple(many(31, integer)...))},
	} {
		wantNoJoin(t, i, x[0], x[1])
	}
	// It is the code itself: there is no place to tell.
	if _, e := env.Join(nil, known(integer)); e != error(api.BadShape) {
		t.Errorf("P5.2: %v", e)
	}
}

func TestJoinsWhateverTheSize(t *testing.T) {
	const n = 300_000
	pair := func(t api.Ty) api.Ty { return tuple(integer, t) }
	wantLess(t, "Boxes", known(times(n, integer, box)), known(gone(times(n, integer, box))), true)
	wantLess(t, "Boxes", known(gone(times(n, integer, box))), known(times(n, integer, box)), false)
	wantLess(t, "Boxes", known(times(n, integer, box)), known(times(n-1, integer, box)), false)
	wantLess(t, "Tuples", known(times(n, ref(integer, lent("x")), pair)), known(times(n, ref(integer, lent("x"), lent("y")), pair)), true)
	wantLess(t, "Tuples", known(times(n, ref(integer, lent("x")), pair)), known(times(n, ref(integer, lent("y")), pair)), false)
	j, e := env.Join(known(times(n, ref(integer, lent("x")), pair)), known(times(n, ref(integer, lent("y")), pair)))
	if e != nil || !env.Fits(j[0].Ty, times(n, ref(integer), pair)) || !env.Hit(j, place("x"), true) || !env.Hit(j, place("y"), true) || env.Hit(j, place("x"), false) {
		t.Errorf("P5.2: Tuples: %v", e)
	}
	var even, odd, all []api.Loan
	for i := range n {
		all = append(all, lent("x", i))
		if i%2 == 0 {
			even = append(even, lent("x", i))
		} else {
			odd = append(odd, lent("x", i))
		}
	}
	wantJoin(t, "loans", known(ref(integer, even...)), known(ref(integer, odd...)), known(ref(integer, all...)))
}

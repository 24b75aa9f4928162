package env_test

import (
	"slices"
	"testing"

	"lienbook/api"
	"lienbook/env"
)

// lessByWords and joinByWords go as the chapter's words do, of types that fit.
func lessByWords(a, b api.Ty) bool {
	ok := !(a.Gone && !b.Gone)
	for _, l := range a.Loans {
		ok = ok && slices.ContainsFunc(b.Loans, func(k api.Loan) bool { return cmpByWords(l, k) == 0 })
	}
	for i, kid := range a.Kids {
		ok = ok && lessByWords(kid, b.Kids[i])
	}
	return ok
}

func joinByWords(a, b api.Ty) api.Ty {
	out := api.Ty{Kind: a.Kind, Mut: a.Mut, Gone: a.Gone || b.Gone, Loans: slices.Concat(a.Loans, b.Loans)}
	slices.SortFunc(out.Loans, cmpByWords)
	out.Loans = slices.CompactFunc(out.Loans, func(k, l api.Loan) bool { return cmpByWords(k, l) == 0 })
	for i, kid := range a.Kids {
		out.Kids = append(out.Kids, joinByWords(kid, b.Kids[i]))
	}
	return out
}

func fitsByWords(a, b api.Ty) bool {
	return a.Kind == b.Kind && a.Mut == b.Mut && slices.EqualFunc(a.Kids, b.Kids, fitsByWords)
}

func allLess(a, b []api.Bind) bool {
	for i := range a {
		if !lessByWords(a[i].Ty, b[i].Ty) {
			return false
		}
	}
	return true
}

func TestAnyJoin(t *testing.T) {
	r := newRoll(54)
	seen := map[bool]int{}
	for n := 0; n < 20000 && !t.Failed(); n++ {
		shapes := r.shapes()
		a, b := r.learnAll(shapes, 6), r.learnAll(shapes, 2)
		want := allLess(a, b)
		seen[want]++
		wantLess(t, a, a, b, want)
		wantLess(t, a, b, a, allLess(b, a))
		join := slices.Clone(a)
		for i := range join {
			join[i].Ty = joinByWords(a[i].Ty, b[i].Ty)
		}
		wantJoin(t, a, a, b, join)
	}
	if seen[true] < 2000 || seen[false] < 2000 {
		t.Errorf("at most: %v", seen)
	}
}

func TestAnyTypesFitOrNot(t *testing.T) {
	r := newRoll(55)
	seen := map[bool]int{}
	for n := 0; n < 20000 && !t.Failed(); n++ {
		x := r.shape(3, false)
		a, b := r.learn(x, 3, false), r.learn(x, 3, false)
		wantFits(t, x, a, b, true)
		r.spoil(&b)
		want := fitsByWords(a, b)
		seen[want]++
		wantFits(t, x, a, b, want)
		if !want || !rightByWords(b) {
			wantNoJoin(t, x, known(a), known(b))
		} else {
			wantJoin(t, x, known(a), known(b), known(joinByWords(a, b)))
		}
	}
	if seen[true] < 2000 || seen[false] < 2000 {
		t.Errorf("fit: %v", seen)
	}
}

// TestTheJoinIsTheLeast holds P5.3: both are at most the join, and it is at most all that both are.
func TestTheJoinIsTheLeast(t *testing.T) {
	r := newRoll(56)
	above := 0
	for n := 0; n < 20000 && !t.Failed(); n++ {
		shapes := r.shapes()
		a, b, c := r.learnAll(shapes, 8), r.learnAll(shapes, 8), r.learnAll(shapes, 1+r.Intn(2))
		j, e := env.Join(a, b)
		if e != nil || !env.Right(j) || !env.Less(a, j) || !env.Less(b, j) {
			t.Fatalf("P5.3: %v and %v: %v, %v", a, b, j, e)
		}
		if env.Less(a, c) && env.Less(b, c) {
			above++
			if !env.Less(j, c) {
				t.Errorf("P5.3: %v isn't at most %v", j, c)
			}
		} else if env.Less(j, c) {
			t.Errorf("P5.3: %v is at most %v", j, c)
		}
	}
	if above < 2000 {
		t.Errorf("%d times both were at most a third one", above)
	}
}

// TestWhatIsHitStaysHit holds P5.3: what is hit in one is hit in what that is at most.
func TestWhatIsHitStaysHit(t *testing.T) {
	r := newRoll(57)
	hit := 0
	for n := 0; n < 20000 && !t.Failed(); n++ {
		shapes := r.shapes()
		a, b := r.learnAll(shapes, 6), r.learnAll(shapes, 6)
		j, _ := env.Join(a, b)
		p := r.anyLoan().Place
		for _, write := range []bool{false, true} {
			one := env.Hit(a, p, write) || env.Hit(b, p, write)
			if one != env.Hit(j, p, write) { // the join has no loan that neither has
				t.Errorf("P5.3: %v by writing %v: %v in %v or %v", p, write, one, a, b)
			}
			if one {
				hit++
			}
		}
	}
	if hit < 2000 {
		t.Errorf("%d places are hit", hit)
	}
}

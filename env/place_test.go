package env_test

import (
	"cmp"
	"math"
	"slices"
	"strconv"
	"strings"
	"testing"

	"lienbook/api"
	"lienbook/env"
)

func wantOverlap(t *testing.T, a, b api.Place, want bool) {
	t.Helper()
	if env.Overlap(a, b) != want || env.Overlap(b, a) != want {
		t.Errorf("P5.1: %v and %v: %v, %v, want %v", a, b, env.Overlap(a, b), env.Overlap(b, a), want)
	}
}

func TestPlacesThatOverlap(t *testing.T) {
	long := many(100000, -1)
	for _, x := range [][2]api.Place{
		{place("x", 0), place("x")}, // the chapter's example
		{place("x"), place("x")}, {place("x", 1), place("x", 1)}, {place("x", -1, 0, 2), place("x", -1, 0, 2)},
		{place("x"), place("x", -1)}, {place("x"), place("x", 29, -1, 0)}, {place("x", 2), place("x", 2, -1)}, {place("x", -1, 0), place("x", -1, 0, 0, 0)},
		// Any name, and any steps.
		{place(""), place("")}, {place(""), place("", 0)}, {place("\xff é"), place("\xff é", 1)}, {place("fn"), place("fn")},
		{place("x", math.MinInt, math.MaxInt), place("x", math.MinInt)}, {place("x", -7, 1000), place("x", -7, 1000, -2)},
		{place("x", long...), place("x", long[:99999]...)}, {place("x", long...), place("x")},
		{{Var: "x", Steps: nil}, {Var: "x", Steps: []int{}}},
	} {
		wantOverlap(t, x[0], x[1], true)
	}
}

func TestPlacesThatDoNotOverlap(t *testing.T) {
	long := many(100000, -1)
	for _, x := range [][2]api.Place{
		{place("x", 0), place("x", 1)}, // the chapter's example
		{place("x"), place("y")}, {place("x", 1), place("y", 1)}, {place("x"), place("y", 1)}, {place("x"), place("X")}, {place("x"), place("xx")}, {place(""), place("x")}, {place("", 1), place("x", 1)}, {place("x"), place("x ")},
		{place("x", 0), place("x", 1, 0)}, {place("x", 0), place("x", -1)}, {place("x", -1, 2), place("x", 2)}, {place("x", 1, 0), place("x", 1, 1)}, {place("x", 0, 1), place("x", 1, 1)}, {place("x", 2, 0, 1), place("x", 2, 1)},
		{place("x", -1), place("x", -2)}, {place("x", math.MinInt), place("x", math.MaxInt)}, {place("x", 1), place("x", 1<<32+1)},
		{place("x", long...), place("x", append(slices.Clone(long[1:]), 0)...)}, {place("x", long...), place("x", 0)},
	} {
		wantOverlap(t, x[0], x[1], false)
	}
}

// text is a place as a text that is the beginning of those of the places that it is the beginning of.
func text(p api.Place) string {
	s := p.Var + ":"
	for _, x := range p.Steps {
		s += strconv.Itoa(x) + ";"
	}
	return s
}

func overlapByWords(a, b api.Place) bool {
	return strings.HasPrefix(text(a), text(b)) || strings.HasPrefix(text(b), text(a))
}

// allPlaces is every place of two variables, of few steps.
func allPlaces() []api.Place {
	out := []api.Place{place("x"), place("y")}
	for i := 0; len(out[i].Steps) < 3; i++ {
		for _, step := range []int{-1, 0, 1} {
			out = append(out, place(out[i].Var, append(slices.Clone(out[i].Steps), step)...))
		}
	}
	return out
}

func TestAllPlaces(t *testing.T) {
	for _, a := range allPlaces() {
		for _, b := range allPlaces() {
			wantOverlap(t, a, b, overlapByWords(a, b))
		}
	}
}

// rise is loans, right or not, each less than those behind it.
func rise() []api.Loan {
	return []api.Loan{
		lent(""), mutLent(""), lent("", math.MinInt), lent("", 7), lent("A"), lent("X", 5), lent("\\"), lent("_"),
		lent("x"), mutLent("x"), lent("x", math.MinInt), lent("x", -2, 9), lent("x", -1), mutLent("x", -1), lent("x", -1, -1), lent("x", -1, 0), lent("x", -1, 0, 0), mutLent("x", -1, 0, 0), lent("x", -1, 1),
		lent("x", 0), mutLent("x", 0), lent("x", 0, -1), mutLent("x", 0, 1), lent("x", 1), lent("x", 1, 0), mutLent("x", 2), lent("x", 10), lent("x", math.MaxInt), mutLent("x", math.MaxInt, math.MinInt),
		lent("x9"), lent("xX"), lent("xx"), mutLent("xx", 1), lent("y"), lent("y", -1), lent("z\xff"), lent("é"), lent("\xff"),
		life("A"), life("Z"), life("a"), {Life: "a", Mut: true}, {Life: "a", Place: place("", 0)}, {Life: "a", Place: place("x")}, {Life: "a", Place: place("x"), Mut: true}, {Life: "a", Place: place("x", 1)}, {Life: "a", Place: place("y")},
		life("a\x00"), life("aZ"), life("aa"), {Life: "aa", Place: place("b")}, life("b"), life("z"), life("é"), life("\xff"),
	}
}

func wantCmp(t *testing.T, a, b api.Loan, want int) {
	t.Helper()
	if got := env.Cmp(a, b); got != want {
		t.Errorf("P5.1: %v and %v: %d, want %d", a, b, got, want)
	}
}

func TestLoansRise(t *testing.T) {
	for i, a := range rise() {
		for k, b := range rise() {
			wantCmp(t, a, b, cmp.Compare(i, k))
		}
	}
	long := many(100000, 3)
	wantCmp(t, lent("x", long...), lent("x", long...), 0)
	wantCmp(t, lent("x", long[1:]...), mutLent("x", long...), -1)
	wantCmp(t, lent("x", append(long, 4)...), lent("x", append(slices.Clone(long), 3)...), 1)
	wantCmp(t, api.Loan{Place: api.Place{Var: "x", Steps: []int{}}}, lent("x"), 0)
}

// cmpByWords takes what tells loans apart one by one, as the chapter's words go.
func cmpByWords(a, b api.Loan) int {
	for i := range max(len(a.Life), len(b.Life)) {
		switch {
		case i >= len(a.Life) || i < len(b.Life) && a.Life[i] < b.Life[i]:
			return -1
		case i >= len(b.Life) || a.Life[i] > b.Life[i]:
			return 1
		}
	}
	if a.Place.Var != b.Place.Var {
		return map[bool]int{true: -1, false: 1}[a.Place.Var < b.Place.Var]
	}
	for i := range max(len(a.Place.Steps), len(b.Place.Steps)) {
		switch {
		case i >= len(a.Place.Steps) || i < len(b.Place.Steps) && a.Place.Steps[i] < b.Place.Steps[i]:
			return -1
		case i >= len(b.Place.Steps) || a.Place.Steps[i] > b.Place.Steps[i]:
			return 1
		}
	}
	switch {
	case !a.Mut && b.Mut:
		return -1
	case a.Mut && !b.Mut:
		return 1
	}
	return 0
}

func TestAnyLoans(t *testing.T) {
	r := newRoll(51)
	alike := 0
	for n := 0; n < 50000 && !t.Failed(); n++ {
		a, b := r.anyLoan(), r.anyLoan()
		want := cmpByWords(a, b)
		wantCmp(t, a, b, want)
		wantOverlap(t, a.Place, b.Place, overlapByWords(a.Place, b.Place))
		if want == 0 {
			alike++
		}
	}
	if alike < 100 {
		t.Errorf("%d loans are alike", alike)
	}
}

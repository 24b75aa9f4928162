package names_test

import (
	"math/rand"
	"reflect"
	"slices"
	"testing"

	"lienbook/api"
	"lienbook/names"
)

var integer = api.Type{Kind: api.Int}

func boxed(t api.Type) api.Type { return api.Type{Kind: api.Box, Kids: []api.Type{t}} }

func tuple(kids ...api.Type) api.Type { return api.Type{Kind: api.Tuple, Kids: kids} }

func ref(life string, t api.Type) api.Type {
	return api.Type{Kind: api.Ref, Life: life, Kids: []api.Type{t}}
}

func mutRef(life string, t api.Type) api.Type {
	return api.Type{Kind: api.Ref, Life: life, Mut: true, Kids: []api.Type{t}}
}

// times puts something around x n times.
func times[T any](n int, x T, around func(T) T) T {
	for range n {
		x = around(x)
	}
	return x
}

func wantWhole(t *testing.T, what any, x api.Type, want bool) {
	t.Helper()
	if got := names.Whole(x); got != want {
		t.Errorf("P4.1: %v: %v, want %v", what, got, want)
	}
}

func TestWholeTypes(t *testing.T) {
	r := ref("a", integer)
	for i, x := range []api.Type{
		integer, boxed(integer), boxed(boxed(integer)), boxed(tuple(integer, boxed(integer))), tuple(integer, integer),
		r, mutRef("a", integer), ref("a", boxed(integer)), mutRef("a", tuple(boxed(integer), integer)),
		tuple(r, r), tuple(integer, mutRef("a", integer)), tuple(boxed(integer), tuple(integer, tuple(r, boxed(integer)))),
	} {
		wantWhole(t, i, x, true)
	}
	for i, x := range []api.Type{
		boxed(r), boxed(mutRef("a", integer)), boxed(boxed(r)), boxed(tuple(r, integer)), boxed(tuple(integer, tuple(integer, r))),
		ref("a", r), ref("a", mutRef("b", integer)), mutRef("a", r), mutRef("a", mutRef("a", integer)), ref("a", tuple(integer, r)), ref("a", boxed(r)), boxed(ref("a", r)),
		tuple(boxed(r), integer), tuple(integer, boxed(r)), tuple(r, ref("a", r)), tuple(tuple(boxed(r), integer), r),
	} {
		wantWhole(t, i, x, false)
	}
}

func TestWholeOfTypesThatAreNotRight(t *testing.T) {
	r := ref("a", integer)
	wantWhole(t, "no type", api.Type{}, true)
	wantWhole(t, "a Ref of nothing", api.Type{Kind: api.Ref}, true)
	wantWhole(t, "a Box of nothing", api.Type{Kind: api.Box}, true)
	wantWhole(t, "a Box that has a life", api.Type{Kind: api.Box, Life: "a", Mut: true, Kids: []api.Type{integer}}, true)
	wantWhole(t, "a Box of a Ref of nothing", boxed(api.Type{Kind: api.Ref}), false)
	wantWhole(t, "a second kid of a Ref", api.Type{Kind: api.Ref, Kids: []api.Type{integer, r}}, false)
	wantWhole(t, "a second kid of a Box", api.Type{Kind: api.Box, Kids: []api.Type{integer, r}}, false)
	wantWhole(t, "a Tuple of one", tuple(r), true)
	wantWhole(t, "a Tuple of 1000", tuple(slices.Repeat([]api.Type{r}, 1000)...), true)
	wantWhole(t, "a Tuple of 1000 and a Box", tuple(append(slices.Repeat([]api.Type{r}, 1000), boxed(r))...), false)
	// What stands in what is none of the kinds, or in an Int, stands there all the same, but that is no Box.
	for _, kind := range []int{0, -1, 5, 1 << 62, -1 << 63, api.Int} {
		odd := func(x api.Type) api.Type { return api.Type{Kind: kind, Kids: []api.Type{x}} }
		wantWhole(t, kind, odd(r), true)
		wantWhole(t, kind, odd(boxed(integer)), true)
		wantWhole(t, kind, odd(boxed(r)), false)
		wantWhole(t, kind, boxed(odd(integer)), true)
		wantWhole(t, kind, boxed(odd(r)), false)
		wantWhole(t, kind, ref("a", odd(odd(r))), false)
	}
}

func TestWholeOfDeepTypes(t *testing.T) {
	const n = 1_000_000
	in := func(x api.Type) api.Type { return tuple(integer, x) }
	r := ref("a", integer)
	wantWhole(t, "Boxes", times(n, integer, boxed), true)
	wantWhole(t, "Boxes of a Ref", times(n, r, boxed), false)
	wantWhole(t, "Tuples of a Ref", times(n, r, in), true)
	wantWhole(t, "a Box of Tuples of a Ref", boxed(times(n, r, in)), false)
	wantWhole(t, "Tuples of a Box of a Ref", times(n, boxed(r), in), false)
	wantWhole(t, "a Ref of Boxes", ref("a", times(n, integer, boxed)), true)
}

// wholeByWords is whether a type is whole, by another way: each Ref is held against all that it stands in.
func wholeByWords(t api.Type, around ...int) bool {
	if t.Kind == api.Ref && (slices.Contains(around, api.Box) || slices.Contains(around, api.Ref)) {
		return false
	}
	for _, kid := range t.Kids {
		if !wholeByWords(kid, append(slices.Clone(around), t.Kind)...) {
			return false
		}
	}
	return true
}

// anyType is a type, right or not.
func anyType(r *rand.Rand, deep int) api.Type {
	t := api.Type{Kind: []int{api.Int, api.Box, api.Tuple, api.Tuple, api.Tuple, api.Ref, r.Intn(7) - 1}[r.Intn(7)], Mut: r.Intn(2) == 0}
	if deep > 0 {
		for range r.Intn(4) {
			t.Kids = append(t.Kids, anyType(r, deep-1))
		}
	}
	return t
}

func TestWholeOfAnyType(t *testing.T) {
	r := rand.New(rand.NewSource(4))
	whole := 0
	for range 20000 {
		x := anyType(r, 5)
		want := wholeByWords(x)
		wantWhole(t, x, x, want)
		if want {
			whole++
		}
	}
	if whole < 5000 || whole > 15000 {
		t.Errorf("%d types of 20000 are whole", whole)
	}
}

func TestWholeChangesNothing(t *testing.T) {
	fresh := func() api.Type {
		list := []api.Type{ref("a", integer), boxed(integer), boxed(ref("b", integer))}
		return api.Type{Kind: api.Tuple, Kids: list[:2]}
	}
	x := fresh()
	names.Whole(x)
	if want := fresh(); !reflect.DeepEqual(x, want) || !reflect.DeepEqual(x.Kids[:3], want.Kids[:3]) {
		t.Errorf("rule 3: a type was changed: %v", x)
	}
}

package step_test

import (
	"reflect"
	"slices"
	"strconv"
	"strings"
	"testing"

	"lienbook/api"
	"lienbook/step"
)

func TestWhichLivesOutlive(t *testing.T) {
	for _, x := range []struct {
		outs string
		want string // pairs
	}{
		{"", ""},
		{"a b", "ab"},
		{"b a", "ba"},
		{"a a", ""},
		{"a b b c", "ab bc ac"},
		{"b c a b", "ab bc ac"}, // in any order
		{"a b c d", "ab cd"},
		{"a b a c", "ab ac"},
		{"a c b c", "ac bc"},
		{"a b b a", "ab ba"},
		{"a b b c c a", "ab ac ba bc ca cb"},
		{"a b b b b c a c", "ab bc ac"},
		{"a b b c c d d e", "ab ac ad ae bc bd be cd ce de"},
		{"d e c d b c a b", "ab ac ad ae bc bd be cd ce de"},
		{"a b b a b c d a", "ab ba ac bc da db dc"},
		// An odd one tells nothing.
		{"a", ""}, {"a b c", "ab"}, {"a b b", "ab"},
	} {
		f := api.Fn{Outs: strings.Fields(x.outs)}
		for _, a := range "abcdef" {
			for _, b := range "abcdef" {
				want := a == b || slices.Contains(strings.Fields(x.want), string(a)+string(b))
				if got := step.Outlives(f, string(a), string(b)); got != want {
					t.Errorf("P6.1: where %s: %c outlives %c: %v", x.outs, a, b, got)
				}
			}
		}
	}
}

func TestLivesOfAnyNames(t *testing.T) {
	f := api.Fn{Lives: []string{"a", "b"}, Outs: []string{"", "'a", "'a", "\xff", "aa", "a"}}
	for _, x := range []struct {
		a, b string
		want bool
	}{
		{"", "", true}, {"", "'a", true}, {"", "\xff", true}, {"'a", "", false}, {"aa", "a", true}, {"a", "aa", false}, {"a", "b", false}, {"a", "A", false}, {"aaa", "a", false}, {"\xff", "\xff", true}, {"\xff", "\xfe", false},
	} {
		if got := step.Outlives(f, x.a, x.b); got != x.want {
			t.Errorf("P6.1: %q outlives %q: %v", x.a, x.b, got)
		}
	}
}

func TestManyLives(t *testing.T) {
	const n = 100_000
	var f api.Fn
	for i := range n { // a long way, and a ring at its end; of each one two ways on
		f.Outs = append(f.Outs, strconv.Itoa(i), strconv.Itoa(i+1), strconv.Itoa(i), strconv.Itoa(min(i+2, n)))
	}
	f.Outs = append(f.Outs, strconv.Itoa(n), strconv.Itoa(n/2))
	if !step.Outlives(f, "0", strconv.Itoa(n)) || !step.Outlives(f, strconv.Itoa(n), strconv.Itoa(n/2+1)) || step.Outlives(f, strconv.Itoa(n), strconv.Itoa(n/2-1)) || step.Outlives(f, "1", "0") {
		t.Error("P6.1: a long way of lives")
	}
}

func TestShapes(t *testing.T) {
	for typ, want := range map[string]string{
		"int": "i", "box int": "bi", "box box int": "bbi", "(int, int)": "(ii)", "&'a int": "&{}i", "&'a mut int": "&!{}i",
		"(int, box int, (&'a mut (int, box int), &'b int))": "(ibi(&!{}(ibi)&{}i))", "&'b box (box int, int)": "&{}b(bii)",
		// Not whole, but a type.
		"&'a &'b mut int": "&{}&!{}i", "box &'a int": "b&{}i",
	} {
		f := read(t, "fn f(p: "+typ+") -> int { ret 0; }")[0]
		if got := step.Shape(f.Params[0].Type); showType(got) != want {
			t.Errorf("P6.1: %s: %s, want %s", typ, showType(got), want)
		}
	}
}

func TestShapesOfTypesThatAreNotRight(t *testing.T) {
	odd := api.Type{Kind: -7, Life: "a", Mut: true, Kids: []api.Type{{Kind: api.Int, Mut: true, Kids: []api.Type{{}}}, {Kind: api.Tuple}, {Kind: 1 << 60, Kids: []api.Type{}}, {Kind: api.Ref}}}
	want := api.Ty{Kind: -7, Mut: true, Kids: []api.Ty{{Kind: api.Int, Mut: true, Kids: []api.Ty{{}}}, {Kind: api.Tuple}, {Kind: 1 << 60}, {Kind: api.Ref}}}
	if got := step.Shape(odd); !reflect.DeepEqual(got, want) {
		t.Errorf("P6.1: %v: %v", odd, got)
	}
	if got := step.Shape(api.Type{}); !reflect.DeepEqual(got, api.Ty{}) {
		t.Errorf("P6.1: the shape of nothing: %v", got)
	}
}

func TestDeepShapes(t *testing.T) {
	const n = 1_000_000
	deep := api.Type{Kind: api.Ref, Life: "a", Mut: true, Kids: []api.Type{{Kind: api.Int}}}
	for range n {
		deep = api.Type{Kind: api.Box, Kids: []api.Type{deep}}
	}
	got := step.Shape(deep)
	start := step.Start(api.Fn{Params: []api.Param{{Name: "p", Type: deep}}})[0].Ty
	for range n {
		if got.Kind != api.Box || len(got.Kids) != 1 || start.Kind != api.Box || len(start.Kids) != 1 || len(start.Loans) != 0 {
			t.Fatalf("P6.1: %d, %d", got.Kind, start.Kind)
		}
		got, start = got.Kids[0], start.Kids[0]
	}
	if showType(got) != "&!{}i" || showType(start) != "&!{'a}i" {
		t.Errorf("P6.1: %v, %v", got, start)
	}
}

func TestStart(t *testing.T) {
	for head, want := range map[string]string{
		"f() -> int":       "",
		"f(x: int) -> int": "x:i",
		"f['a](x: &'a int, y: &'a mut int) -> int":                                        "x:&{'a}i y:&!{'a}i",
		"f['a, 'b](y: &'b int, x: &'a box int) -> &'a int":                                "y:&{'b}i x:&{'a}bi",
		"f['a, 'b](t: (box int, (&'b mut (int, int), int), &'a int)) -> int where 'a: 'b": "t:(bi(&!{'b}(ii)i)&{'a}i)",
		// Of any function: names alike, no such life, types that aren't whole.
		"f(x: int, x: &'c int, x: box int) -> int": "x:i x:&{'c}i x:bi",
		"f(x: &'a &'b int) -> int":                 "x:&{'a}&{'b}i",
	} {
		f := readFns(t, head)[0]
		if got := step.Start(f); show(got) != want {
			t.Errorf("P6.1: %s: %s, want %s", head, show(got), want)
		}
	}
	odd := api.Fn{Params: []api.Param{{Name: "\xff", Type: api.Type{Kind: api.Ref}}, {}, {Type: api.Type{Kind: 9, Kids: []api.Type{{Kind: api.Ref, Life: "'", Mut: true}}}}}}
	want := []api.Bind{{Name: "\xff", Ty: api.Ty{Kind: api.Ref, Loans: []api.Loan{{}}}}, {}, {Ty: api.Ty{Kind: 9, Kids: []api.Ty{{Kind: api.Ref, Mut: true, Loans: []api.Loan{{Life: "'"}}}}}}}
	if got := step.Start(odd); !reflect.DeepEqual(got, want) {
		t.Errorf("P6.1: %v: %v", odd, got)
	}
}

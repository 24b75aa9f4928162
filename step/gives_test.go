package step_test

import (
	"errors"
	"testing"

	"lienbook/api"
	"lienbook/step"
)

func wantGives(t *testing.T, head, typ string, want error) {
	t.Helper()
	got := step.Gives(readFns(t, head)[0], ty(typ))
	if want == nil && got != nil || want != nil && !errors.Is(got, want) {
		t.Errorf("P6.4: %s gives %s: %v, want %v", head, typ, got, want)
	}
}

func TestGives(t *testing.T) {
	const lives = "f['a, 'b, 'c]() -> "
	const outs = " where 'a: 'b, 'b: 'c"
	for _, x := range []struct{ head, typ string }{
		{"f() -> int", "i"}, {"f() -> (int, box (int, int))", "(ib(ii))"},
		{lives + "&'a int", "&{'a}i"}, {lives + "&'a int", "&{}i"}, {lives + "&'a mut box int", "&!{'a}bi"}, {lives + "&'c int" + outs, "&{'a,'b,'c}i"}, {lives + "&'b int" + outs, "&{'a,'b}i"}, {lives + "(&'a int, (int, &'b mut int))", "(&{'a}i(i&!{'b}i))"}, {lives + "(&'a int, &'c int)" + outs, "(&{'a}i&{'a,'c}i)"},
		// A life that is none of its Lives outlives itself.
		{"f() -> &'z int", "&{'z}i"},
	} {
		wantGives(t, x.head, x.typ, nil)
	}
	for _, x := range []struct {
		head, typ string
		want      error
	}{
		{"f() -> int", "bi", api.BadShape}, {"f() -> box int", "i", api.BadShape}, {"f() -> (int, int)", "(iii)", api.BadShape}, {lives + "&'a int", "&!{'a}i", api.BadShape}, {lives + "&'a mut int", "&{'a}i", api.BadShape}, {lives + "&'a int", "&{'a}bi", api.BadShape}, {lives + "&'a int", "i", api.BadShape},
		{"f() -> box int", "-bi", api.Gone}, {"f() -> (int, (int, box int))", "(i(i-bi))", api.Gone}, {lives + "&'a mut int", "-&!{}i", api.Gone}, {lives + "(&'a int, &'a mut int)", "(&{}i-&!{'a}i)", api.Gone},
		{lives + "&'a int", "&{'b}i", api.Short}, {lives + "&'a int", "&{x}i", api.Short}, {lives + "&'a int", "&{a}i", api.Short}, {lives + "&'a mut int", "&!{x!,'a}i", api.Short}, {lives + "&'a int", "&{x,'a}i", api.Short}, {lives + "&'a int", "&{'a,'b}i", api.Short}, {lives + "&'b int" + outs, "&{'a,'b,'c}i", api.Short}, {lives + "&'a int" + outs, "&{'b}i", api.Short}, {lives + "(&'a int, (int, &'b int))", "(&{'a}i(i&{'a}i))", api.Short}, {lives + "(&'a int, (int, &'b int))", "(&{'b}i(i&{'b}i))", api.Short}, {lives + "&'a int", "&{'z}i", api.Short}, {lives + "&'a int", "&{'aa}i", api.Short},
		// The first reason.
		{"f() -> int", "-bi", api.BadShape}, {lives + "&'a int", "&!{'b}i", api.BadShape}, {lives + "(&'a int, box int)", "(&{'b}i-bi)", api.Gone}, {lives + "(int, &'a int)", "(-bi&{'b}i)", api.BadShape},
	} {
		wantGives(t, x.head, x.typ, x.want)
	}
	// A loan with neither a life nor a name is one of a place.
	if e := step.Gives(readFns(t, lives+"&'a int")[0], api.Ty{Kind: api.Ref, Loans: []api.Loan{{}}, Kids: []api.Ty{{Kind: api.Int}}}); !errors.Is(e, api.Short) {
		t.Errorf("P6.4: %v", e)
	}
}

func TestGivesOfWhatIsNot(t *testing.T) {
	for i, p := range unknown(t) {
		if len(p) != 1 {
			continue
		}
		for _, typ := range []string{"i", "bi", "&{'a}i", "&{x}i"} {
			if e := step.Gives(p[0], ty(typ)); !errors.Is(e, api.BadForm) {
				t.Errorf("P6.4: %d, %s: %v", i, typ, e)
			}
		}
	}
	f := readFns(t, "f() -> int")[0]
	for i, e := range wrongBinds() {
		if err := step.Gives(f, e[len(e)-1].Ty); !errors.Is(err, api.BadForm) {
			t.Errorf("P6.4: %d: %v", i, err)
		}
	}
}

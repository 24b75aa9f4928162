package step_test

import (
	"cmp"
	"reflect"
	"slices"
	"strconv"
	"testing"

	"lienbook/api"
	"lienbook/env"
	"lienbook/step"
)

// roomy is a list with spare room, that has something in it.
func roomy[T any](list []T, spare ...T) []T { return slices.Concat(list, spare)[:len(list)] }

// roomyBinds is what is known, in lists that all have spare room.
func roomyBinds(e []api.Bind) []api.Bind {
	out := roomy(e, known("spare:i s:&{x,y}i")...)
	for i := range out {
		out[i].Ty = roomyType(out[i].Ty)
	}
	return out
}

func roomyType(t api.Ty) api.Ty {
	t.Kids = roomy(t.Kids, ty("bi"), ty("&{x}i"))
	for i := range t.Kids {
		t.Kids[i] = roomyType(t.Kids[i])
	}
	t.Loans = roomy(t.Loans, api.Loan{Life: "spare"}, api.Loan{})
	for i := range t.Loans {
		steps := &t.Loans[i].Place.Steps
		*steps = roomy(*steps, 7, 8, 9)
	}
	return t
}

func roomyExpr(x api.Expr) api.Expr {
	x.Kids = roomy(x.Kids, api.Expr{Kind: 77}, api.Expr{})
	for i := range x.Kids {
		x.Kids[i] = roomyExpr(x.Kids[i])
	}
	return x
}

func roomyFns(p []api.Fn) []api.Fn {
	out := roomy(p, api.Fn{Name: "spare"})
	for i, f := range out {
		out[i].Lives, out[i].Outs, out[i].Params = roomy(f.Lives, "spare"), roomy(f.Outs, "spare", "room"), roomy(f.Params, api.Param{Name: "spare"})
	}
	return out
}

// whole is a thing with all that stands in its lists' spare room, in memory of its own.
func whole(v any) any { return wholeValue(reflect.ValueOf(v)).Interface() }

func wholeValue(v reflect.Value) reflect.Value {
	out := reflect.New(v.Type()).Elem()
	switch v.Kind() {
	case reflect.Slice:
		out.Set(reflect.MakeSlice(v.Type(), v.Cap(), v.Cap()))
		for i := range v.Cap() {
			out.Index(i).Set(wholeValue(v.Slice(0, v.Cap()).Index(i)))
		}
	case reflect.Struct:
		for i := range v.NumField() {
			out.Field(i).Set(wholeValue(v.Field(i)))
		}
	default:
		out.Set(v)
	}
	return out
}

// span is the memory of a list, with its spare room.
type span struct{ from, to uintptr }

// spans is those of all lists of things.
func spans(things ...any) []span {
	var out []span
	for _, x := range things {
		out = spansIn(reflect.ValueOf(x), out)
	}
	return out
}

func spansIn(v reflect.Value, out []span) []span {
	switch v.Kind() {
	case reflect.Slice:
		if v.Cap() > 0 {
			out = append(out, span{v.Pointer(), v.Pointer() + uintptr(v.Cap())*v.Type().Elem().Size()})
		}
		v = v.Slice(0, v.Cap())
		for i := range v.Len() {
			out = spansIn(v.Index(i), out)
		}
	case reflect.Struct:
		for i := range v.NumField() {
			out = spansIn(v.Field(i), out)
		}
	}
	return out
}

// wantOwn asks that no two lists of answers share memory, and none shares it with what was handed in.
func wantOwn(t *testing.T, what string, handedIn []any, answers ...any) {
	t.Helper()
	own := spans(answers...)
	slices.SortFunc(own, func(a, b span) int { return cmp.Compare(a.from, b.from) })
	for i, x := range own[:max(0, len(own)-1)] {
		if x.to > own[i+1].from {
			t.Errorf("rule 3: %s: two lists of an answer share memory", what)
		}
	}
	for _, x := range own {
		for _, y := range spans(handedIn...) {
			if x.from < y.to && y.from < x.to {
				t.Errorf("rule 3: %s: an answer has memory of what was handed in", what)
			}
		}
	}
}

// TestMemory does each thing, with lists that have spare room, and that share what they have.
func TestMemory(t *testing.T) {
	p := roomyFns(fns(t))
	e := roomyBinds(known("x:i b:bi r:&!{x!,z.1*}i s:&{a.0*.1,b!,'l}i t:(bi&!{y!}i(i&{w.2}i)) y:i u:(i-bi) v:b(ii) m:((ii)i)"))
	e = append(e, api.Bind{Name: "q", Ty: e[3].Ty}, api.Bind{Name: "o", Ty: api.Ty{Kind: api.Tuple, Kids: []api.Ty{e[3].Ty, e[3].Ty}}})
	wantP, wantE := whole(p), whole(e)
	right := 0
	done := func(what string, err error, answers ...any) {
		t.Helper()
		wantOwn(t, what, []any{p, e}, answers...)
		if !reflect.DeepEqual(whole(p), wantP) || !reflect.DeepEqual(whole(e), wantE) {
			t.Fatalf("rule 3: %s: %v or %v was changed", what, p, e)
		}
		if err == nil {
			right++
		}
	}
	for _, s := range []string{"1", "x", "y", "r", "s", "t", "t.0", "t.2", "t.2.1", "o", "*r", "&*s", "&mut *t.1", "&t.0", "&v", "&mut m", "&m.0", "*v", "(t, s)", "(o, q)", "(s, (s, &*s))", "(&m, &m)", "box (x, t.0)", "box m", "far(s, &y)", "one(s, o.1)", "keep(r, t.0)", "add(*r, s) + 1", "swap((s, t.2))", "box t", "never()", "x.1"} {
		x := roomyExpr(readExpr(t, s))
		wantX := whole(x)
		typ, out, err := step.Eval(p, e, x)
		done(s, err, typ, out)
		for _, to := range []string{"t.2.1", "q", "o", "o.1", "m", "b", "t.0", "*v", "(*v).1", s} {
			place := roomyExpr(readExpr(t, to))
			out, err := step.Set(p, e, place, x)
			done(to+" = "+s, err, out)
		}
		if !reflect.DeepEqual(whole(x), wantX) {
			t.Errorf("rule 3: %s was changed", s)
		}
	}
	for n := range len(e) + 1 {
		out, err := step.Leave(e, n)
		done("Leave "+strconv.Itoa(n), err, out)
	}
	for _, f := range p {
		done(f.Name, nil, step.Start(f), step.Shape(f.Gives))
		done(f.Name, step.Gives(f, e[3].Ty))
		step.Outlives(f, "a", "b")
		done(f.Name, nil)
	}
	if right < 60 {
		t.Errorf("%d things go right", right)
	}
}

// TestDeepAndLong has types deeper than calls may be, and environments that are long.
func TestDeepAndLong(t *testing.T) {
	const n = 200_000
	row, chest := ty("bi"), ty("i")
	for range n {
		row = api.Ty{Kind: api.Tuple, Kids: []api.Ty{row, ty("i")}}
		chest = api.Ty{Kind: api.Box, Kids: []api.Ty{chest}}
	}
	e := append(known("x:i r:&{r*}i"), api.Bind{Name: "row", Ty: row}, api.Bind{Name: "chest", Ty: chest}, api.Bind{Name: "to", Ty: api.Ty{Kind: api.Ref, Mut: true, Kids: []api.Ty{chest}}})
	for range n {
		e = append(e, known("y:i")...)
	}
	for _, s := range []string{"row", "chest", "to"} {
		typ, out, err := step.Eval(nil, e, readExpr(t, s))
		at := slices.IndexFunc(e, func(b api.Bind) bool { return b.Name == s })
		if err != nil || !env.Less(alone(typ), alone(e[at].Ty)) || !env.Less(e, out) || env.Less(out, e) {
			t.Errorf("P6.2: a deep %s: %v", s, err)
		}
		typ, out, err = step.Eval(nil, e, readExpr(t, "(1, "+s+")"))
		wantWrong(t, s, typ, out, err, api.TooMuch)
		place, x := readSet(t, s+" = "+s)
		if out, err := step.Set(nil, e, place, x); err != nil || !env.Less(e, out) || !env.Less(out, e) {
			t.Errorf("P6.2: a deep %s: %v", s, err)
		}
	}
	typ, _, err := step.Eval(nil, e, readExpr(t, "&mut row"))
	if err != nil || len(typ.Loans) != 1 || !env.Fits(typ.Kids[0], row) {
		t.Errorf("P6.2: a deep row lent: %v", err)
	}
	if out, err := step.Leave(e, 5); err != nil || !env.Less(out, e[:5]) {
		t.Errorf("P6.3: %v", err)
	}
	// A leaf that is very far in is lent.
	far := api.Loan{Place: api.Place{Var: "row", Steps: make([]int, n)}}
	e = append(e, api.Bind{Name: "s", Ty: api.Ty{Kind: api.Ref, Loans: []api.Loan{far}, Kids: []api.Ty{ty("bi")}}})
	typ, out, err := step.Eval(nil, e, readExpr(t, "row"))
	wantWrong(t, "far in", typ, out, err, api.Lent)
	if typ, _, err := step.Eval(nil, e, readExpr(t, "row.1")); err != nil || showType(typ) != "i" {
		t.Errorf("P6.2: a leaf beside what is lent: %v", err)
	}
}

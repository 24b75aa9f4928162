package step_test

import (
	"errors"
	"slices"
	"strings"
	"testing"

	"lienbook/api"
	"lienbook/step"
)

// wrongBinds is environments that aren't right, by the last of their binds.
func wrongBinds() [][]api.Bind {
	var out [][]api.Bind
	for _, typ := range []api.Ty{
		{}, {Kind: 5}, {Kind: -1}, {Kind: api.Int, Mut: true}, {Kind: api.Int, Gone: true}, {Kind: api.Box}, {Kind: api.Tuple}, ty("(i)"), ty("(" + strings.Repeat("i", 31) + ")"), ty("-&{}i"), ty("-(ii)"), ty("b&{}i"), ty("&{}&{}i"), ty("b(i-bi)"), ty("&!{}-bi"), ty("&{y,x}i"), ty("&{x,x}i"), ty("&{'a,x}i"), ty("&{x!,x}i"), ty("(i(i(i&{}-bi)))"),
	} {
		out = append(out, []api.Bind{{Name: "x", Ty: typ}}, append(known("x:i r:&{x}i :i"), api.Bind{Ty: typ}))
	}
	return out
}

// unknown is functions ahead that aren't known.
func unknown(t *testing.T) [][]api.Fn {
	var out [][]api.Fn
	for _, head := range []string{"f['a](x: box &'a int) -> int", "f['a](x: int, y: (int, &'a &'a int)) -> int", "f['a]() -> box &'a int", "f['a](x: int) -> &'a (int, &'a int)"} {
		out = append(out, readFns(t, head), readFns(t, "g() -> int", head, "h() -> int"))
	}
	wrong := func(change func(*api.Fn)) {
		f := readFns(t, "f(x: int) -> int")[0]
		change(&f)
		out = append(out, []api.Fn{f}, append(fns(t), f))
	}
	wrong(func(f *api.Fn) { *f = api.Fn{} })
	wrong(func(f *api.Fn) { f.Name = "" })
	wrong(func(f *api.Fn) { f.Name = "let" })
	wrong(func(f *api.Fn) { f.Lives = []string{"'a"} })
	wrong(func(f *api.Fn) { f.Params[0].Type = api.Type{Kind: api.Box} })
	wrong(func(f *api.Fn) { f.Gives.Mut = true })
	wrong(func(f *api.Fn) { f.Outs = []string{"a"} })
	wrong(func(f *api.Fn) { f.Body = []api.Stmt{{Kind: 5}} })
	wrong(func(f *api.Fn) { f.Value = api.Expr{Kind: api.Lit, Num: -1} })
	wrong(func(f *api.Fn) { f.Value = around(41, api.Expr{Kind: api.Lit}, api.New) })
	return append(out, slices.Repeat(readFns(t, "f() -> int"), 31))
}

// around is an expression in so many others of that kind.
func around(n int, x api.Expr, kind int) api.Expr {
	for range n {
		x = api.Expr{Kind: kind, Kids: []api.Expr{x}}
	}
	return x
}

// wrongExprs is expressions that aren't right, or too deep.
func wrongExprs() []api.Expr {
	one, x := api.Expr{Kind: api.Lit, Num: 1}, api.Expr{Kind: api.Var, Name: "x"}
	kids := func(kind int, kids ...api.Expr) api.Expr { return api.Expr{Kind: kind, Kids: kids} }
	out := []api.Expr{
		{}, {Kind: 10}, {Kind: -1}, {Kind: api.Lit, Num: -1}, {Kind: api.Lit, Num: 1e18}, {Kind: api.Lit, Name: "x"}, {Kind: api.Lit, Mut: true}, kids(api.Lit, one),
		{Kind: api.Var}, {Kind: api.Var, Name: "fn"}, {Kind: api.Var, Name: "x y"}, {Kind: api.Var, Name: strings.Repeat("x", 31)}, {Kind: api.Var, Name: "x", Num: 1}, {Kind: api.Var, Name: "x", Kids: []api.Expr{x}},
		{Kind: api.Part}, kids(api.Part, one), kids(api.Part, x, x), {Kind: api.Part, Num: 30, Kids: []api.Expr{x}}, {Kind: api.Part, Num: -1, Kids: []api.Expr{x}}, {Kind: api.Part, Mut: true, Kids: []api.Expr{x}},
		{Kind: api.Deref}, kids(api.Deref, one), kids(api.Deref, kids(api.New, one)), {Kind: api.Deref, Num: 1, Kids: []api.Expr{x}}, {Kind: api.Deref, Name: "x", Kids: []api.Expr{x}},
		{Kind: api.Lend}, kids(api.Lend, one), kids(api.Lend, kids(api.Lend, x)), kids(api.Lend, x, x), {Kind: api.New}, kids(api.New, one, one), {Kind: api.New, Mut: true, Kids: []api.Expr{one}},
		kids(api.Row), kids(api.Row, one), kids(api.Row, slices.Repeat([]api.Expr{one}, 31)...), {Kind: api.Row, Name: "x", Kids: []api.Expr{one, one}}, kids(api.Oper, one, one), {Kind: api.Oper, Name: "+", Kids: []api.Expr{one}}, {Kind: api.Oper, Name: "%", Kids: []api.Expr{one, one}},
		{Kind: api.Call}, {Kind: api.Call, Name: "ret"}, {Kind: api.Call, Name: "none", Num: 1}, {Kind: api.Call, Name: "none", Kids: slices.Repeat([]api.Expr{one}, 31)},
		around(41, one, api.New), around(41, x, api.Deref), around(1000, x, api.Part),
	}
	for _, bad := range slices.Clone(out) {
		out = append(out, kids(api.Row, one, bad))
	}
	return out
}

func TestWhatIsNotKnownOrRight(t *testing.T) {
	x, y := readExpr(t, "x"), readExpr(t, "y + box 1")
	none := func(what string, ahead []api.Fn, e []api.Bind, place, x api.Expr, eval bool) {
		t.Helper()
		out, err := step.Set(ahead, e, place, x)
		wantWrong(t, "Set: "+what, api.Ty{}, out, err, api.BadForm)
		if eval {
			typ, out, err := step.Eval(ahead, e, x)
			wantWrong(t, what, typ, out, err, api.BadForm)
		}
	}
	for _, p := range unknown(t) {
		none("unknown", p, known("x:i"), x, x, true)
		none("unknown", p, nil, y, y, true)
	}
	for _, e := range wrongBinds() {
		none("not right", nil, e, x, x, true)
		none("not right", fns(t), slices.Concat(e, known("y:i")), x, y, true)
	}
	for _, bad := range wrongExprs() {
		none("an expression", fns(t), known("x:i"), x, bad, true)
		none("an expression", nil, nil, y, bad, true)
		none("a place", fns(t), known("x:i"), bad, x, false)
		none("a place", nil, nil, bad, y, false)
	}
	for _, s := range []string{"1", "&x", "&mut *x", "box x", "(x, x)", "x + x", "none()", "add(x, &x)"} {
		none("no place: "+s, fns(t), known("x:i"), readExpr(t, s), x, false)
		none("no place: "+s, nil, nil, readExpr(t, s), y, false)
	}
}

// TestAsDeepAsMayBe goes as deep as expressions and places may be, and no deeper.
func TestAsDeepAsMayBe(t *testing.T) {
	one, x := api.Expr{Kind: api.Lit, Num: 1}, api.Expr{Kind: api.Var, Name: "x"}
	if typ, _, err := step.Eval(nil, nil, around(40, one, api.New)); err != nil || showType(typ) != chain(41) {
		t.Errorf("P6.2: 40 deep: %s, %v", showType(typ), err)
	}
	e := known("x:" + chain(60))
	typ, out, err := step.Eval(nil, e, around(40, x, api.Deref))
	wantWrong(t, "a place 40 deep", typ, out, err, api.Shared)
	if typ, _, err := step.Eval(nil, known("x:"+chain(41)), around(40, x, api.Deref)); err != nil || showType(typ) != "i" {
		t.Errorf("P6.2: a place 40 deep: %s, %v", showType(typ), err)
	}
	deep := around(40, x, api.Deref)
	if out, err := step.Set(nil, known("x:"+chain(41)), deep, one); err != nil || show(out) != "x:"+chain(41) {
		t.Errorf("P6.2: a Set 40 deep: %s, %v", show(out), err)
	}
	if out, err := step.Set(nil, e, deep, around(40, one, api.New)); !errors.Is(err, api.BadShape) || len(out) != 0 {
		t.Errorf("P6.2: a Set 40 deep: %s, %v", show(out), err)
	}
	out, err = step.Set(nil, e, around(41, x, api.Deref), one)
	wantWrong(t, "a Set 41 deep", api.Ty{}, out, err, api.BadForm)
}

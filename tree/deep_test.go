package tree_test

import (
	"math/rand"
	"testing"

	"lienbook/api"
	"lienbook/tree"
)

func wantDeep(t *testing.T, what any, p []api.Fn, want int) {
	t.Helper()
	if got := tree.Deep(p); got != want {
		t.Errorf("P2.1: %v: %d deep, want %d", what, got, want)
	}
}

func TestDeepExpressions(t *testing.T) {
	a, b, c := v("a"), v("b"), v("c")
	for i, x := range []struct {
		deep int
		expr api.Expr
	}{
		{0, lit(1)}, {0, a}, {1, part(0, a)}, {1, deref(a)}, {1, lend(true, a)}, {1, box(a)}, {1, row(a, b)}, {1, call("f")}, {1, call("f", a)},
		{3, row(a, box(deref(a)))}, {3, call("f", part(1, part(2, a)), a)}, {2, part(0, deref(a))}, // (*a).0: the parentheses count of Opers alone
		{2, box(op("+", a, b))}, // box (a + b)
		{1, op("+", a, b)}, {2, op("+", op("+", a, b), c)}, {3, op("+", a, op("+", b, c))}, {3, op("*", op("-", a, b), c)}, {3, op("*", a, op("-", b, c))},
		{2, op("+", op("*", a, b), c)}, {2, op("+", a, op("*", b, c))}, {3, op("/", a, op("*", b, c))}, {2, op("/", op("*", a, b), c)},
		{3, op("<", op("==", a, b), c)}, {3, op("==", a, op("<", b, c))}, {2, op("<", op("+", a, b), op("/", a, b))}, {3, op("+", op("<", a, b), c)},
		{2, op("-", a, box(b))}, {3, op("-", a, row(a, op("-", a, b)))}, {5, op("-", a, op("-", a, op("-", b, c)))},
	} {
		wantDeep(t, i, main(x.expr), x.deep)
		wantDeep(t, i, main(lit(1), let("x", x.expr)), x.deep+1)
		wantDeep(t, i, main(lit(1), set(x.expr, lit(1))), x.deep+1)
		wantDeep(t, i, main(lit(1), when(x.expr, nil, nil)), x.deep+1)
		wantDeep(t, i, main(lit(1), when(lit(1), nil, []api.Stmt{repeat(x.expr)})), x.deep+2)
	}
}

func TestDeepTypes(t *testing.T) {
	for i, x := range []struct {
		deep int
		typ  api.Type
	}{
		{0, integer}, {1, boxed(integer)}, {1, tuple(integer, integer)}, {1, ref("a", true, integer)}, {3, tuple(boxed(integer), integer, boxed(ref("a", false, integer)))},
	} {
		wantDeep(t, i, giving(x.typ), x.deep)
		wantDeep(t, i, with(func(f *api.Fn) { f.Params = []api.Param{{Name: "x", Type: integer}, {Name: "y", Type: x.typ}} }), x.deep)
	}
}

func TestDeepPrograms(t *testing.T) {
	wantDeep(t, "none", nil, 0)
	wantDeep(t, "empty", []api.Fn{}, 0)
	wantDeep(t, "a function of nothing", []api.Fn{{}}, 0)
	wantDeep(t, "every kind", program(), 5)
	wantDeep(t, "the first is the deepest", append(main(times(9, v("a"), deref)), program()...), 9)
	wantDeep(t, "the last is the deepest", append(program(), main(times(9, v("a"), deref))...), 9)
	wantDeep(t, "an empty If", main(lit(1), when(lit(1), nil, nil)), 1)
	wantDeep(t, "a Then that is deeper", main(lit(1), when(lit(1), []api.Stmt{repeat(lit(1))}, nil)), 2)
	wantDeep(t, "an Else that is deeper", main(lit(1), when(lit(1), nil, []api.Stmt{repeat(lit(1))})), 2)
}

func TestDeepOfWhatIsWrong(t *testing.T) {
	two := deref(deref(v("a")))
	for _, kind := range []int{0, -1, 10, 1 << 62, -1 << 63, api.Lit, api.Var} {
		wantDeep(t, kind, main(api.Expr{Kind: kind, Kids: []api.Expr{two}}), 0)
		wantDeep(t, kind, main(op("+", v("a"), api.Expr{Kind: kind, Name: "+", Kids: []api.Expr{two}})), 1)
	}
	for _, kind := range []int{0, -1, 5, 1 << 62, -1 << 63, api.Int} {
		wantDeep(t, kind, giving(api.Type{Kind: kind, Kids: []api.Type{boxed(integer)}}), 0)
	}
	for _, kind := range []int{0, -1, 5, 1 << 62, -1 << 63, api.Let, api.Set, api.If, api.Repeat} {
		in := []api.Stmt{{Kind: kind}}
		wantDeep(t, kind, main(lit(1), api.Stmt{Kind: kind}), 1)
		wantDeep(t, kind, main(lit(1), api.Stmt{Kind: kind, Place: two}), 3)
		wantDeep(t, kind, main(lit(1), api.Stmt{Kind: kind, Expr: two}), 3)
		wantDeep(t, kind, main(lit(1), api.Stmt{Kind: kind, Then: in}), 2)
		wantDeep(t, kind, main(lit(1), api.Stmt{Kind: kind, Else: in}), 2)
	}
	// A kind that has kids is one deeper than the deepest of none.
	for _, kind := range []int{api.Part, api.Deref, api.Lend, api.New, api.Row, api.Oper, api.Call} {
		wantDeep(t, kind, main(api.Expr{Kind: kind}), 1)
	}
	for _, kind := range []int{api.Box, api.Tuple, api.Ref} {
		wantDeep(t, kind, giving(api.Type{Kind: kind}), 1)
	}
	// An operation that there is not is as strong as all else: the second kid isn't stronger.
	wantDeep(t, "%", main(op("%", v("a"), lit(1))), 2)
	wantDeep(t, "% at first", main(op("%", op("%", v("a")), lit(1))), 2)
	wantDeep(t, "% in +", main(op("+", op("%"), op("%"))), 2)
	wantDeep(t, "one kid", main(op("+", op("<", v("a"), v("b")))), 3)
	wantDeep(t, "three kids", main(op("+", v("a"), v("b"), deref(deref(v("c"))))), 3)
	// Of a third kid the text has nothing: it stands in no parentheses.
	wantDeep(t, "a third kid of +", main(op("+", v("a"), v("b"), op("<", v("a"), v("b")))), 2)
	wantDeep(t, "a third kid of <", main(op("<", v("a"), v("b"), op("<", v("a"), v("b")))), 2)
}

func TestFarTooDeep(t *testing.T) {
	const n = 1_000_000
	for what, p := range map[string][]api.Fn{
		"expressions": main(times(n, v("a"), deref)),
		"types":       giving(times(n, integer, boxed)),
		"statements": main(lit(1), times(n-1, let("x", lit(1)), func(s api.Stmt) api.Stmt {
			return api.Stmt{Kind: api.If, Expr: lit(1), Then: []api.Stmt{s}}
		})),
	} {
		wantDeep(t, what, p, n)
		wantRight(t, what, p, false)
	}
}

// deepExpr is how deep an expression is, by another way: as the chapter's words go.
func deepExpr(x api.Expr) int {
	if x.Kind <= api.Var || x.Kind > api.Call {
		return 0
	}
	strong := func(x api.Expr) int {
		if n := map[string]int{"<": 1, "==": 1, "+": 2, "-": 2, "*": 3, "/": 3}[x.Name]; n > 0 && x.Kind == api.Oper {
			return n
		}
		return 4
	}
	most := 0
	for i, kid := range x.Kids {
		n := deepExpr(kid)
		me, it := strong(x), strong(kid)
		if x.Kind == api.Oper && (me == 1 && it == 1 || me > 1 && i == 0 && it < me || me > 1 && i == 1 && it <= me) {
			n++
		}
		most = max(most, n)
	}
	return most + 1
}

// anyExpr is an expression, right or not.
func anyExpr(r *rand.Rand, n int) api.Expr {
	x := api.Expr{Kind: r.Intn(12), Num: int64(r.Intn(33) - 1), Name: []string{"a", "+", "-", "*", "/", "<", "==", "%"}[r.Intn(8)]}
	if r.Intn(2) == 0 {
		x.Kind = api.Oper
	}
	if n > 0 {
		for range 1 + r.Intn(2) {
			x.Kids = append(x.Kids, anyExpr(r, n-1))
		}
	}
	return x
}

func TestDeepOfAnyExpression(t *testing.T) {
	r := rand.New(rand.NewSource(1))
	for range 20000 {
		x := anyExpr(r, 7)
		wantDeep(t, x, main(x), deepExpr(x))
	}
}

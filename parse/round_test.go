package parse_test

import (
	"math/rand"
	"reflect"
	"strings"
	"testing"

	"lienbook/api"
	"lienbook/parse"
	"lienbook/tree"
)

// wantRound asks that the text of a right tree is parsed to that tree; it says how long the text is.
func wantRound(t *testing.T, p []api.Fn) int {
	t.Helper()
	s, e := tree.Print(p)
	if e != nil {
		t.Fatalf("P3.2: %v has no text: %v", p, e)
	}
	q, e := parse.Parse(s)
	if e != nil || len(p)+len(q) > 0 && !reflect.DeepEqual(p, q) {
		t.Fatalf("P3.2: %q: got %v, %v, want %v", s, q, e, p)
	}
	return len(s)
}

// fn is a function that gives back that value.
func fn(x api.Expr, body ...api.Stmt) []api.Fn {
	return []api.Fn{{Name: "main", Gives: api.Type{Kind: api.Int}, Body: body, Value: x}}
}

func isPlace(x api.Expr) bool {
	return x.Kind == api.Var || x.Kind == api.Part || x.Kind == api.Deref
}

// small is every expression of some kinds that is no deeper than n, parentheses not counted.
func small(n int) []api.Expr {
	out := []api.Expr{v("a"), lit(1)}
	if n == 0 {
		return out
	}
	kids := small(n - 1)
	for _, x := range kids {
		if isPlace(x) {
			out = append(out, part(1, x), of(api.Deref, x), lend(true, x), lend(false, x))
		}
		out = append(out, of(api.New, x), named(api.Call, "f", x))
		for _, y := range kids {
			out = append(out, op("<", x, y), op("==", x, y), op("-", x, y), op("+", x, y), op("*", x, y), op("/", x, y), of(api.Row, x, y), named(api.Call, "f", x, y))
		}
	}
	return out
}

func TestAllSmallExpressions(t *testing.T) {
	list := small(2)
	for _, x := range list {
		wantRound(t, fn(x))
	}
	if len(list) < 10000 {
		t.Errorf("%d expressions", len(list))
	}
}

func TestAllSmallPlaces(t *testing.T) {
	list := []api.Expr{v("x")}
	for i := 0; i < len(list) && len(list) < 3000; i++ {
		list = append(list, of(api.Deref, list[i]), part(0, list[i]), part(29, list[i]))
	}
	for _, x := range list {
		wantRound(t, fn(x, api.Stmt{Kind: api.Set, Place: x, Expr: of(api.Row, lend(false, x), lend(true, x), op("*", x, x))}))
	}
}

// grower makes right trees by chance.
type grower struct{ *rand.Rand }

func (g grower) name() string {
	return []string{"a", "x", "Z", "_", "f1", "lets", "boxes", "Int", strings.Repeat("y", 30)}[g.Intn(9)]
}

// some is none to n things.
func some[T any](g grower, n int, thing func() T) []T {
	var out []T
	for range g.Intn(n + 1) {
		out = append(out, thing())
	}
	return out
}

func (g grower) typ(deep int) api.Type {
	kid := func() api.Type { return g.typ(deep - 1) }
	kind := 1 + g.Intn(4)
	switch {
	case deep == 0 || kind == api.Int:
		return api.Type{Kind: api.Int}
	case kind == api.Tuple:
		return api.Type{Kind: kind, Kids: append([]api.Type{kid(), kid()}, some(g, 2, kid)...)}
	case kind == api.Ref:
		return api.Type{Kind: kind, Life: g.name(), Mut: g.Intn(2) == 0, Kids: []api.Type{kid()}}
	}
	return api.Type{Kind: kind, Kids: []api.Type{kid()}}
}

func (g grower) place(deep int) api.Expr {
	switch kind := g.Intn(3); {
	case deep == 0 || kind == 0:
		return v(g.name())
	case kind == 1:
		return part(int64(g.Intn(30)), g.place(deep-1))
	}
	return of(api.Deref, g.place(deep-1))
}

func (g grower) expr(deep int) api.Expr {
	kid := func() api.Expr { return g.expr(deep - 1) }
	kind := 1 + g.Intn(9)
	switch {
	case kind == api.Lit:
		return lit([]int64{0, 1, 29, 30, 1e18 - 1, g.Int63n(1e18)}[g.Intn(6)])
	case deep == 0 || kind <= api.Deref:
		return g.place(deep)
	case kind == api.Lend:
		return lend(g.Intn(2) == 0, g.place(deep-1))
	case kind == api.New:
		return of(kind, kid())
	case kind == api.Row:
		return of(kind, append([]api.Expr{kid(), kid()}, some(g, 2, kid)...)...)
	case kind == api.Call:
		return named(kind, g.name(), some(g, 3, kid)...)
	}
	return op([]string{"+", "-", "*", "/", "<", "=="}[g.Intn(6)], kid(), kid())
}

func (g grower) stmt(deep, loops int) api.Stmt {
	s := api.Stmt{Kind: 1 + g.Intn(4), Expr: g.expr(4)}
	if deep == 0 || loops == 0 && s.Kind == api.Repeat {
		s.Kind = 1 + g.Intn(2)
	}
	in := func() api.Stmt { return g.stmt(deep-1, loops) }
	switch s.Kind {
	case api.Let:
		s.Name = g.name()
	case api.Set:
		s.Place = g.place(4)
	case api.If:
		s.Then, s.Else = some(g, 3, in), some(g, 3, in)
	case api.Repeat:
		s.Then = some(g, 3, func() api.Stmt { return g.stmt(deep-1, loops-1) })
	}
	return s
}

func (g grower) fn() api.Fn {
	f := api.Fn{Name: g.name(), Lives: some(g, 3, g.name), Gives: g.typ(3), Value: g.expr(5)}
	f.Params = some(g, 3, func() api.Param { return api.Param{Name: g.name(), Type: g.typ(4)} })
	f.Body = some(g, 4, func() api.Stmt { return g.stmt(4, api.MaxLoops) })
	for range g.Intn(3) {
		f.Outs = append(f.Outs, g.name(), g.name())
	}
	return f
}

func TestTextsOfRightTrees(t *testing.T) {
	g := grower{rand.New(rand.NewSource(2))}
	short, round := 0, 0
	for range 3000 {
		p := some(g, 3, g.fn)
		if _, e := tree.Print(p); e == api.TooMuch {
			continue
		}
		round++
		if wantRound(t, p) < 200 {
			short++
		}
	}
	if round < 2500 || short > 2000 {
		t.Errorf("%d trees, %d of them short", round, short)
	}
}

func TestTextsOfTreesAtTheLimits(t *testing.T) {
	deep := v("x")
	for range 40 {
		deep = part(29, deep)
	}
	right := lit(1e18 - 1)
	for range 20 {
		right = op("-", lit(1), right)
	}
	typ := api.Type{Kind: api.Int}
	for range 40 {
		typ = api.Type{Kind: api.Ref, Life: "a", Mut: true, Kids: []api.Type{typ}}
	}
	loop := api.Stmt{Kind: api.Let, Name: strings.Repeat("x", 30), Expr: lit(1)}
	for range 3 {
		loop = api.Stmt{Kind: api.Repeat, Expr: lit(1), Then: []api.Stmt{loop}}
	}
	var wide api.Fn
	wide.Name, wide.Gives = "_", api.Type{Kind: api.Tuple}
	row, call := of(api.Row), named(api.Call, "f")
	for range 30 {
		wide.Lives, wide.Outs = append(wide.Lives, "a"), append(wide.Outs, "b")
		wide.Params = append(wide.Params, api.Param{Name: "x", Type: api.Type{Kind: api.Int}})
		wide.Gives.Kids = append(wide.Gives.Kids, api.Type{Kind: api.Int})
		wide.Body = append(wide.Body, api.Stmt{Kind: api.If, Expr: lit(1)})
		row.Kids, call.Kids = append(row.Kids, lit(0)), append(call.Kids, v("a"))
	}
	wide.Value = op("==", row, call)
	var many []api.Fn
	for range 30 {
		many = append(many, fn(lit(1))...)
	}
	typed := fn(lit(1))
	typed[0].Gives = typ
	for _, p := range [][]api.Fn{nil, fn(deep), fn(right), typed, fn(lit(1), loop), {wide}, many} {
		wantRound(t, p)
	}
}

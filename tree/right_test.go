package tree_test

import (
	"errors"
	"reflect"
	"testing"

	"lienbook/api"
	"lienbook/tree"
)

// wantRight asks whether a program is right, of Right and, as it asks for that, of Print.
func wantRight(t *testing.T, what any, p []api.Fn, want bool) {
	t.Helper()
	if got := tree.Right(p); got != want {
		t.Errorf("P2.1: %v: right is %v, want %v", what, got, want)
	}
	s, e := tree.Print(p)
	if want && e != nil && !errors.Is(e, api.TooMuch) || !want && (!errors.Is(e, api.BadForm) || s != "") {
		t.Errorf("P2.2: %v: printed %q, %v, and right should be %v", what, s, e, want)
	}
}

// exprs has, of each kind, one that is right.
func exprs() []api.Expr {
	return []api.Expr{lit(1), v("a"), part(1, v("a")), deref(v("a")), lend(true, v("a")), lend(false, v("a")), box(v("a")), row(v("a"), v("b")), op("+", v("a"), v("b")), call("f"), call("f", v("a"))}
}

// stmts has, of each kind, one that is right.
func stmts() []api.Stmt {
	return []api.Stmt{let("x", lit(1)), set(v("x"), lit(1)), when(lit(1), nil, nil), when(lit(1), []api.Stmt{let("x", lit(1))}, []api.Stmt{let("x", lit(1))}), repeat(lit(1)), repeat(lit(1), let("x", lit(1)))}
}

func TestWholeProgramsAreRight(t *testing.T) {
	wantRight(t, "none", nil, true)
	wantRight(t, "empty", []api.Fn{}, true)
	wantRight(t, "every kind", program(), true)
	wantRight(t, "a function of nothing", []api.Fn{{}}, false)
	for k := range program() {
		p := program()
		p[k].Name = "1"
		wantRight(t, k, p, false)
	}
}

func TestNames(t *testing.T) {
	for k, put := range []func(s string) []api.Fn{
		func(s string) []api.Fn { return with(func(f *api.Fn) { f.Name = s }) },
		func(s string) []api.Fn { return with(func(f *api.Fn) { f.Lives = []string{"a", s} }) },
		func(s string) []api.Fn {
			return with(func(f *api.Fn) { f.Params = []api.Param{{Name: "a", Type: integer}, {Name: s, Type: integer}} })
		},
		func(s string) []api.Fn { return with(func(f *api.Fn) { f.Outs = []string{"a", s} }) },
		func(s string) []api.Fn { return with(func(f *api.Fn) { f.Outs = []string{s, "a"} }) },
		func(s string) []api.Fn { return giving(ref(s, true, integer)) },
		func(s string) []api.Fn { return main(v(s)) },
		func(s string) []api.Fn { return main(call(s, lit(1))) },
		func(s string) []api.Fn { return main(lit(1), let(s, lit(1))) },
	} {
		for _, s := range goodName {
			wantRight(t, []any{k, s}, put(s), true)
		}
		for _, s := range noName {
			wantRight(t, []any{k, s}, put(s), false)
		}
	}
}

func TestOperations(t *testing.T) {
	for _, s := range []string{"+", "-", "*", "/", "<", "=="} {
		wantRight(t, s, main(op(s, v("a"), v("b"))), true)
	}
	for _, s := range []string{"", "%", "=", "->", ">", "&", "a", "+ ", "++", "+-", ".", "<="} {
		wantRight(t, s, main(op(s, v("a"), v("b"))), false)
	}
}

func TestNumbers(t *testing.T) {
	for n, want := range map[int64]bool{0: true, 1: true, 1e18 - 1: true, 1e18: false, -1: false, -1 << 63: false, 1<<63 - 1: false} {
		wantRight(t, n, main(lit(n)), want)
	}
	for n, want := range map[int64]bool{0: true, 29: true, 30: false, -1: false, 1e18: false, -1 << 63: false} {
		wantRight(t, n, main(part(n, v("a"))), want)
		wantRight(t, n, main(part(3, part(n, v("a")))), want)
	}
}

func TestAnExpressionHasNothingButItsKinds(t *testing.T) {
	for i, x := range exprs() {
		wantRight(t, i, main(x), true)
		wantRight(t, i, main(box(x)), true)
		wantRight(t, i, main(lit(1), let("x", x)), true)

		num, name, mut, kid := x, x, x, x
		num.Num = 7
		wantRight(t, []any{i, "Num"}, main(num), x.Kind == api.Lit || x.Kind == api.Part)
		name.Name = "q"
		wantRight(t, []any{i, "Name"}, main(name), x.Kind == api.Var || x.Kind == api.Call)
		mut.Mut = true
		wantRight(t, []any{i, "Mut"}, main(mut), x.Kind == api.Lend)
		kid.Kids = append(many(0, x), x.Kids...)
		kid.Kids = append(kid.Kids, v("a"))
		wantRight(t, []any{i, "Kids"}, main(kid), x.Kind == api.Row || x.Kind == api.Call)
	}
	for _, kind := range []int{0, -1, 10, 11, 1 << 62, -1 << 63} {
		for _, x := range exprs() {
			x.Kind = kind
			wantRight(t, x, main(x), false)
			wantRight(t, x, main(call("f", x)), false)
		}
	}
}

func TestHowManyKidsExpressionsHave(t *testing.T) {
	for n := range 33 {
		for i, x := range exprs() {
			x.Kids = many(n, v("a"))
			want := false
			switch x.Kind {
			case api.Lit, api.Var:
				want = n == 0
			case api.Part, api.Deref, api.Lend, api.New:
				want = n == 1
			case api.Oper:
				want = n == 2
			case api.Row:
				want = n >= 2 && n <= 30
			case api.Call:
				want = n <= 30
			}
			wantRight(t, []int{i, n}, main(x), want)
		}
	}
	for i, x := range exprs() {
		if len(x.Kids) == 0 {
			x.Kids = []api.Expr{}
			wantRight(t, i, main(x), true)
		}
	}
}

func TestKidsAreRight(t *testing.T) {
	wrong := v("1")
	for i, x := range exprs() {
		for k := range x.Kids {
			y := x
			y.Kids = append(many(0, x), x.Kids...)
			y.Kids[k] = wrong
			wantRight(t, []int{i, k}, main(y), false)
		}
	}
}

func TestPlaces(t *testing.T) {
	for i, x := range exprs() {
		want := x.Kind == api.Var || x.Kind == api.Part || x.Kind == api.Deref
		for k, whole := range []api.Expr{part(0, x), deref(x), lend(false, x), lend(true, x), part(0, deref(x))} {
			wantRight(t, []int{i, k}, main(whole), want)
		}
		wantRight(t, i, main(lit(1), set(x, lit(1))), want)
	}
	wantRight(t, "no place", main(lit(1), set(api.Expr{}, lit(1))), false)
	wantRight(t, "a place of no place", main(lit(1), set(deref(part(1, call("f"))), lit(1))), false)
	wantRight(t, "a place that is wrong", main(lit(1), set(part(30, v("a")), lit(1))), false)
}

func TestTypes(t *testing.T) {
	kinds := []api.Type{integer, boxed(integer), tuple(integer, integer), ref("a", false, integer), ref("a", true, integer)}
	for i, x := range kinds {
		wantRight(t, i, giving(x), true)
		wantRight(t, i, giving(boxed(x)), true)
		wantRight(t, i, with(func(f *api.Fn) { f.Params = []api.Param{{Name: "x", Type: x}} }), true)

		life, mut := x, x
		life.Life = "q"
		wantRight(t, []any{i, "Life"}, giving(life), x.Kind == api.Ref)
		mut.Mut = true
		wantRight(t, []any{i, "Mut"}, giving(mut), x.Kind == api.Ref)
		for n := range 33 {
			y := x
			y.Kids = many(n, integer)
			want := map[int]bool{api.Int: n == 0, api.Box: n == 1, api.Ref: n == 1, api.Tuple: n >= 2 && n <= 30}[x.Kind]
			wantRight(t, []int{i, n}, giving(y), want)
		}
		for _, kind := range []int{0, -1, 5, 1 << 62, -1 << 63} {
			y := x
			y.Kind = kind
			wantRight(t, y, giving(y), false)
			wantRight(t, y, with(func(f *api.Fn) { f.Params = []api.Param{{Name: "x", Type: y}} }), false)
		}
	}
	wrong := ref("", false, integer)
	for i, x := range []api.Type{boxed(wrong), tuple(wrong, integer), tuple(integer, wrong), ref("a", false, wrong)} {
		wantRight(t, i, giving(x), false)
	}
	// Whether a type is whole, layer 4 asks.
	wantRight(t, "a reference to a reference", giving(ref("a", false, ref("b", true, boxed(ref("c", false, integer))))), true)
}

func TestAStatementHasNothingButItsKinds(t *testing.T) {
	more := []api.Stmt{let("y", lit(2))}
	for i, s := range stmts() {
		wantRight(t, i, main(lit(1), s), true)
		name, then, other, no := s, s, s, s
		name.Name = "q"
		wantRight(t, []any{i, "Name"}, main(lit(1), name), s.Kind == api.Let)
		then.Then = more
		wantRight(t, []any{i, "Then"}, main(lit(1), then), s.Kind == api.If || s.Kind == api.Repeat)
		other.Else = more
		wantRight(t, []any{i, "Else"}, main(lit(1), other), s.Kind == api.If)
		no.Expr = api.Expr{}
		wantRight(t, []any{i, "Expr"}, main(lit(1), no), false)
		for k, x := range append(exprs(), api.Expr{Num: 1}, api.Expr{Name: "a"}, api.Expr{Mut: true}, api.Expr{Kids: []api.Expr{v("a")}}) {
			s.Place = x
			place := x.Kind == api.Var || x.Kind == api.Part || x.Kind == api.Deref
			wantRight(t, []any{i, "Place", k}, main(lit(1), s), s.Kind == api.Set && place)
		}
	}
	for _, kind := range []int{0, -1, 5, 1 << 62, -1 << 63} {
		for _, s := range append(stmts(), api.Stmt{}) {
			s.Kind = kind
			wantRight(t, s, main(lit(1), s), false)
		}
	}
}

func TestStatementsInStatementsAreRight(t *testing.T) {
	for _, wrong := range []api.Stmt{{}, let("1", lit(1)), let("x", lit(-1)), set(lit(1), lit(1)), when(v(""), nil, nil), repeat(op("%", lit(1), lit(1)))} {
		list := []api.Stmt{let("x", lit(1)), wrong}
		wantRight(t, wrong, main(lit(1), list...), false)
		wantRight(t, wrong, main(lit(1), when(lit(1), list, nil)), false)
		wantRight(t, wrong, main(lit(1), when(lit(1), nil, list)), false)
		wantRight(t, wrong, main(lit(1), repeat(lit(1), list...)), false)
	}
}

func TestEmptyListsAreAsNone(t *testing.T) {
	s := let("x", api.Expr{Kind: api.Lit, Kids: []api.Expr{}})
	s.Place.Kids, s.Then, s.Else = []api.Expr{}, []api.Stmt{}, []api.Stmt{}
	p := main(lit(1), s, when(lit(1), []api.Stmt{}, []api.Stmt{}))
	p[0].Lives, p[0].Outs, p[0].Params = []string{}, []string{}, []api.Param{}
	p[0].Gives.Kids = []api.Type{}
	wantRight(t, "empty lists", p, true)
	text, _ := tree.Print(p)
	if want, _ := tree.Print(main(lit(1), let("x", lit(0)), when(lit(1), nil, nil))); text != want {
		t.Errorf("P2.2: %q, want %q", text, want)
	}
}

func TestHowLongListsMayBe(t *testing.T) {
	for _, n := range []int{29, 30, 31, 32, 1000} {
		list := many(n, let("x", lit(1)))
		for what, p := range map[string][]api.Fn{
			"functions": many(n, main(lit(1))[0]),
			"Lives":     with(func(f *api.Fn) { f.Lives = many(n, "a") }),
			"Params":    with(func(f *api.Fn) { f.Params = many(n, api.Param{Name: "x", Type: integer}) }),
			"Body":      main(lit(1), list...),
			"Then":      main(lit(1), when(lit(1), list, nil)),
			"Else":      main(lit(1), when(lit(1), nil, list)),
			"a Repeat":  main(lit(1), repeat(lit(1), list...)),
		} {
			wantRight(t, []any{what, n}, p, n <= 30)
		}
	}
	for n, want := range map[int]bool{0: true, 1: false, 2: true, 3: false, 28: true, 29: false, 30: true, 31: false, 32: false} {
		wantRight(t, n, with(func(f *api.Fn) { f.Outs = many(n, "a") }), want)
	}
}

func TestHowDeepRightIs(t *testing.T) {
	second := func(x api.Expr) api.Expr { return op("-", v("a"), x) } // in parentheses, where x is an Oper
	inIf := func(s api.Stmt) api.Stmt { return when(lit(1), nil, []api.Stmt{s}) }
	for n, want := range map[int]bool{38: true, 39: true, 40: true, 41: false, 42: false, 90: false} {
		for what, p := range map[string][]api.Fn{
			"gives":  giving(times(n, integer, boxed)),
			"params": with(func(f *api.Fn) { f.Params = []api.Param{{Name: "x", Type: times(n, integer, boxed)}} }),
			"value":  main(times(n, v("a"), deref)),
			"calls":  main(times(n-1, call("f"), func(x api.Expr) api.Expr { return call("f", x) })),
			"parts":  main(times(n, v("a"), func(x api.Expr) api.Expr { return part(29, x) })),
			"let":    main(lit(1), let("x", times(n-1, lit(1), box))),
			"place":  main(lit(1), set(times(n-1, v("a"), deref), lit(1))),
			"body":   main(lit(1), times(n-1, let("x", lit(1)), inIf)),
			"mixed":  main(lit(1), times(n-3, let("x", deref(deref(v("a")))), inIf)),
		} {
			wantRight(t, []any{what, n}, p, want)
			all := append(program(), p...)
			wantRight(t, []any{what, n, "behind"}, all, want)
		}
	}
	// n operations, each the second kid of one: n - 1 of them stand in parentheses.
	wantRight(t, "39 deep", main(times(20, v("a"), second)), true)
	wantRight(t, "41 deep", main(times(21, v("a"), second)), false)
}

func TestHowManyLoopsMayBe(t *testing.T) {
	loop := func(s api.Stmt) api.Stmt { return repeat(lit(1), s) }
	then := func(s api.Stmt) api.Stmt { return when(lit(1), []api.Stmt{s}, nil) }
	other := func(s api.Stmt) api.Stmt { return when(lit(1), nil, []api.Stmt{let("y", lit(1)), s}) }
	leaf := let("x", lit(1))
	for n := range 6 {
		want := n <= 3
		wantRight(t, n, main(lit(1), times(n, leaf, loop)), want)
		wantRight(t, n, main(lit(1), leaf, times(n, leaf, func(s api.Stmt) api.Stmt { return then(loop(s)) })), want)
		wantRight(t, n, main(lit(1), times(n, leaf, func(s api.Stmt) api.Stmt { return loop(other(s)) })), want)
		wantRight(t, n, append(program(), main(lit(1), times(n, leaf, loop))...), want)
	}
	wantRight(t, "an empty fourth", main(lit(1), times(3, repeat(lit(1)), loop)), false)
	three := times(3, leaf, loop)
	wantRight(t, "beside each other", main(lit(1), three, three, repeat(lit(1), times(2, leaf, loop), times(2, leaf, loop))), true)
}

func TestATreeInItself(t *testing.T) {
	kids := many(2, api.Expr{Kind: api.New})
	kids[0].Kids, kids[1].Kids = kids[:1], kids
	list := many(2, when(lit(1), nil, nil))
	list[0].Then, list[1].Else = list, list
	types := many(2, boxed(integer))
	types[0].Kids, types[1].Kids = types, types
	wantRight(t, "expressions", main(kids[1]), false)
	wantRight(t, "statements", main(lit(1), list...), false)
	wantRight(t, "types", giving(types[0]), false)
}

// roomy is program, with spare room behind the kids of each Value.
func roomy() []api.Fn {
	p := program()
	for i, f := range p {
		p[i].Value.Kids = append(f.Value.Kids, lit(9))[:len(f.Value.Kids)]
	}
	return p
}

func TestNothingIsChanged(t *testing.T) {
	p := roomy()
	tree.Right(p)
	tree.Deep(p)
	tree.Print(p)
	if !reflect.DeepEqual(p, roomy()) {
		t.Error("rule 3: a program was changed")
	}
	for _, f := range p {
		n := len(f.Value.Kids)
		if !reflect.DeepEqual(f.Value.Kids[:n+1][n], lit(9)) {
			t.Error("rule 3: spare room was changed")
		}
	}
}

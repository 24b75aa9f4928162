package names_test

import (
	"errors"
	"reflect"
	"slices"
	"strconv"
	"strings"
	"testing"

	"lienbook/api"
	"lienbook/names"
	"lienbook/parse"
)

const endMain = " fn main() -> int { ret 0; }"

// read is a text's program.
func read(t *testing.T, s string) []api.Fn {
	t.Helper()
	p, e := parse.Parse(s)
	if e != nil {
		t.Fatalf("%q: %v", s, e)
	}
	return p
}

func wantFormed(t *testing.T, what any, p []api.Fn) {
	t.Helper()
	if e := names.Check(p); e != nil {
		t.Errorf("P4.2: %v: %v, want none", what, e)
	}
}

// wantFault asks for that fault, and that it is nothing else.
func wantFault(t *testing.T, what any, p []api.Fn, at int, why api.Code) {
	t.Helper()
	var fault *api.Fault
	if e := names.Check(p); !errors.As(e, &fault) || fault.At != at || !errors.Is(e, why) || !reflect.DeepEqual(e, &api.Fault{At: at, Err: why}) {
		t.Errorf("P4.2: %v: %v, want %v at %d", what, e, why, at)
	}
}

func TestFormedPrograms(t *testing.T) {
	for _, s := range []string{
		"fn main() -> int { ret 1; }",
		// Functions, lives and variables have names of their own kind.
		"fn f['f](f: &'f int) -> int { ret *f; } fn main() -> int { let f = 1; let main = f(&f); ret main; }",
		"fn a['a, 'b](a: int, b: int) -> int { ret a; }" + endMain,
		"fn f['a](x: int) -> int { ret x; } fn g['a](x: int) -> int { ret x; }" + endMain,
		// Names are told apart to the byte.
		"fn f['a, 'A](x: &'A int, X: &'a int) -> int { let y = X; let Y = x; ret *y; } fn F() -> int { ret 1; } fn mai() -> int { ret 1; } fn main_() -> int { ret 1; }" + endMain,
		// Lives.
		"fn f['a, 'b](x: (int, (&'a int, &'b mut box int))) -> (&'b int, &'a mut int) where 'a: 'b, 'b: 'a, 'a: 'a { ret x; }" + endMain,
		// A life that isn't used.
		"fn f['a]() -> int { ret 1; }" + endMain,
		// Calls, of what is ahead alone; a Let may have a function's name, a Call may not have a variable's.
		"fn f() -> int { ret 1; } fn g(x: int, y: int) -> int { ret x + f(); } fn h() -> int { ret g(f(), g(f(), 1)); } fn main() -> int { let h = h(); ret g(h, h()); }",
		// In scope.
		"fn f(x: int) -> int { let y = x; let z = y + x; x = z; y = x + y + z; ret x + y + z; }" + endMain,
		"fn f(x: int) -> int { if x { let y = x; y = y + x; } else { let y = 2; x = y; } let y = x; ret y; }" + endMain,
		"fn f(x: int) -> int { repeat x { let y = x; if y { let z = y; } else { let z = x; } let z = y; } repeat 2 { let y = 1; let z = y; } let z = x; ret z; }" + endMain,
		"fn main() -> int { let x = 1; if x { x = 2; } else { repeat x { x = x; } } ret x; }",
		"fn main() -> int { if 1 { let x = 1; } else { } if 1 { } else { let x = 1; } repeat 1 { let x = 1; } let x = 1; ret x; }",
		"fn main() -> int { let x = (1, box 2); let r = &mut x.1; *r = 3; x.0 = 4; let y = (x.0, *x.1, r, &x, &mut x, box (x.0 < 1)); ret 1; }",
	} {
		wantFormed(t, s, read(t, s))
	}
	p := read(t, "fn f() -> int { ret 1; }"+endMain)
	p[0].Params, p[0].Lives, p[0].Outs, p[0].Body = []api.Param{}, []string{}, []string{}, []api.Stmt{}
	p[1].Params, p[1].Lives, p[1].Outs, p[1].Body = []api.Param{}, []string{}, []string{}, []api.Stmt{}
	wantFormed(t, "empty lists", p)
}

func TestNamesThatMayNotBe(t *testing.T) {
	for _, s := range []string{
		// Of lives and of Params.
		"fn f['a, 'a]() -> int { ret 1; }",
		"fn f['a, 'b, 'c, 'a]() -> int { ret 1; }",
		"fn f['a, 'b, 'b]() -> int { ret 1; }",
		"fn f(x: int, x: int) -> int { ret 1; }",
		"fn f(x: int, y: int, z: int, x: box int) -> int { ret 1; }",
		"fn f(x: int, y: int, y: int) -> int { ret 1; }",
		// Lives that aren't told.
		"fn f(x: &'a int) -> int { ret 1; }",
		"fn f() -> &'a int { ret 1; }",
		"fn f['b](x: &'a int) -> int { ret 1; }",
		"fn f['b](x: int, y: (int, &'b int, &'a mut int)) -> int { ret 1; }",
		"fn f['b](x: &'b int) -> (&'b int, (int, &'a int)) { ret x; }",
		"fn f['a](x: &'A int) -> int { ret 1; }",
		"fn f['x](a: &'a int) -> int { ret 1; }", // a Param's name is no life's
		"fn f() -> int where 'a: 'a { ret 1; }",
		"fn f['a]() -> int where 'a: 'b { ret 1; }",
		"fn f['a]() -> int where 'b: 'a { ret 1; }",
		"fn f['a]() -> int where 'a: 'a, 'a: 'b { ret 1; }",
		// Variables that aren't there.
		"fn f() -> int { ret x; }",
		"fn f(x: int) -> int { ret X; }",
		"fn f['x](y: &'x int) -> int { ret x; }",
		"fn f() -> int { ret f; }",
		"fn f() -> int { x = 1; ret 1; }",
		"fn f() -> int { *x.0 = 1; ret 1; }",
		"fn f() -> int { (*x).0 = 1; ret 1; }",
		"fn f() -> int { let y = 1; y = x; ret 1; }",
		"fn f() -> int { if x { } else { } ret 1; }",
		"fn f() -> int { repeat x { } ret 1; }",
		"fn f() -> int { if 1 { x = 1; } else { } ret 1; }",
		"fn f() -> int { if 1 { } else { x = 1; } ret 1; }",
		"fn f() -> int { repeat 1 { x = 1; } ret 1; }",
		"fn f() -> int { if 1 { } else { repeat 1 { if 1 { let y = x; } else { } } } ret 1; }",
		"fn f() -> int { let y = 1; ret y + x; }",
		"fn f() -> int { let y = 1; ret x + y; }",
		"fn f() -> int { ret &x; }",
		"fn f() -> int { ret &mut x.1; }",
		"fn f() -> int { ret box x; }",
		"fn f() -> int { ret (1, 2, x); }",
		"fn f() -> int { ret 1 + (2, box (1 < *x.3)); }",
		// Not yet.
		"fn f() -> int { let x = x; ret 1; }",
		"fn f() -> int { let y = x; let x = 1; ret 1; }",
		"fn f() -> int { if x { let x = 1; } else { } ret 1; }",
		"fn f() -> int { x = 1; let x = 1; ret 1; }",
		"fn f() -> int { repeat 2 { let y = x; let x = 1; } ret 1; }",
		// No more.
		"fn f() -> int { if 1 { let x = 1; } else { } ret x; }",
		"fn f() -> int { if 1 { } else { let x = 1; } ret x; }",
		"fn f() -> int { repeat 1 { let x = 1; } ret x; }",
		"fn f() -> int { if 1 { let x = 1; } else { x = 2; } ret 1; }",
		"fn f() -> int { repeat 1 { let x = 1; } x = 2; ret 1; }",
		"fn f() -> int { repeat 1 { if 1 { let x = 1; } else { } let y = x; } ret 1; }",
		// In scope already.
		"fn f(x: int) -> int { let x = 1; ret 1; }",
		"fn f(y: int, x: int) -> int { let z = y; let x = x; ret 1; }",
		"fn f() -> int { let x = 1; let x = 2; ret x; }",
		"fn f() -> int { let x = 1; let y = x; let x = y; ret x; }",
		"fn f(x: int) -> int { if 1 { let x = 1; } else { } ret 1; }",
		"fn f(x: int) -> int { if 1 { } else { let x = 1; } ret 1; }",
		"fn f() -> int { let x = 1; repeat 1 { let x = 1; } ret 1; }",
		"fn f() -> int { repeat 1 { let x = 1; if x { repeat 1 { let x = 1; } } else { } } ret 1; }",
		"fn f() -> int { if 1 { let x = 1; let x = 1; } else { } ret 1; }",
		// Calls.
		"fn f() -> int { ret g(); }",
		"fn f() -> int { ret f(); }",
		"fn f() -> int { ret F(); }",
		"fn f() -> int { ret main(); }",
		"fn f(g: int) -> int { ret g(); }",
		"fn f() -> int { let x = g(); ret 1; }",
		"fn f() -> int { let x = 1; *x = box (1, f()); ret 1; }",
		"fn f() -> int { if f() { } else { } ret 1; }",
		"fn f() -> int { repeat f() { } ret 1; }",
		"fn f() -> int { repeat 1 { repeat 1 { if 1 { } else { let x = f(); } } } ret 1; }",
	} {
		wantFault(t, s, read(t, s+endMain), 0, api.BadName)
		wantFault(t, s, read(t, "fn a() -> int { ret 1; } fn b['a](x: &'a int, y: int) -> int { let z = 1; ret a(); }"+s+endMain), 2, api.BadName)
	}
}

func TestCallsOfSoManyParams(t *testing.T) {
	ahead := "fn f() -> int { ret 1; } fn g(x: int) -> int { ret 1; } fn h(x: int, y: int, z: int) -> int { ret 1; } "
	for i, name := range []string{"f", "g", "h"} {
		for n := range 5 {
			p := read(t, ahead+"fn main() -> int { ret "+name+"("+strings.Join(slices.Repeat([]string{"1"}, n), ", ")+"); }")
			if n == []int{0, 1, 3}[i] {
				wantFormed(t, []any{name, n}, p)
			} else {
				wantFault(t, []any{name, n}, p, 3, api.BadName)
			}
		}
	}
	for _, s := range []string{"g(g())", "g(h(1, 1))", "h(1, 2, g(1, 2))", "g(f(1))", "g(x)", "g(u(1))", "g(main())", "u()"} {
		wantFault(t, s, read(t, ahead+"fn main() -> int { ret "+s+"; } "), 3, api.BadName)
	}
	wantFault(t, "a function behind", read(t, ahead+"fn p() -> int { ret q(); } fn q() -> int { ret 1; } fn main() -> int { ret p(); }"), 3, api.BadName)
}

func TestTwoFunctionsOfOneName(t *testing.T) {
	f, g := " fn f() -> int { ret 1; }", " fn g() -> int { ret 1; }"
	for s, at := range map[string]int{f + f: 1, f + g + f: 2, f + g + g + f: 2, g + f + f + f: 2, endMain + f: 2, f + endMain + g: 3} {
		wantFault(t, s, read(t, s+endMain), at, api.BadName)
	}
	// It is one name also with other Params, and what it has.
	wantFault(t, "other Params", read(t, f+"fn f['a](x: &'a int) -> int { ret *x; }"+endMain), 1, api.BadName)
}

func TestShapesThatMayNotBe(t *testing.T) {
	for i, x := range []string{"&'a &'a int", "box &'a int", "&'a mut box &'a int", "box (int, &'a mut int)", "(int, box &'a int)", "(&'a int, box (int, (int, &'a int)))", "&'a (int, &'a int)"} {
		for _, s := range []string{
			"fn f['a](x: " + x + ") -> int { ret 1; }",
			"fn f['a](x: int, y: &'a int, z: " + x + ") -> int { ret 1; }",
			"fn f['a]() -> " + x + " { ret 1; }",
			"fn f['a](x: &'a int) -> (int, " + x + ") { ret 1; }",
		} {
			wantFault(t, i, read(t, s+endMain), 0, api.BadShape)
			wantFault(t, i, read(t, "fn a() -> int { ret 1; }"+s+endMain), 1, api.BadShape)
		}
	}
}

func TestWhichReasonIsFirst(t *testing.T) {
	for s, why := range map[string]api.Code{
		// BadName of the head is ahead of BadShape, and BadShape of BadName behind.
		"fn g() -> int { ret 1; }":                                api.BadName,
		"fn g['a](x: &'a &'a int) -> int { ret 1; }":              api.BadName,
		"fn f['a, 'a](x: &'a &'a int) -> int { ret 1; }":          api.BadName,
		"fn f['a](x: int, x: &'a &'a int) -> int { ret 1; }":      api.BadName,
		"fn f['a](x: &'a &'b int) -> int { ret 1; }":              api.BadName,
		"fn f['a](x: box &'b int, y: int) -> int { ret 1; }":      api.BadName,
		"fn f['a](x: box &'a int) -> &'b int { ret 1; }":          api.BadName,
		"fn f['a](x: &'a &'a int) -> int where 'a: 'b { ret 1; }": api.BadName,
		"fn f['a](x: &'a &'a int) -> int { ret y; }":              api.BadShape,
		"fn f['a]() -> box &'a int { ret f(); }":                  api.BadShape,
		"fn f['a](x: box &'a int) -> int { let x = 1; ret 1; }":   api.BadShape,
		"fn f(x: int) -> int { let x = 1; ret 1; }":               api.BadName,
	} {
		wantFault(t, s, read(t, "fn g() -> int { ret 1; }"+s+endMain), 1, why)
	}
	shape, name := "fn s['a](x: box &'a int) -> int { ret 1; }", "fn n() -> int { ret y; }"
	wantFault(t, "of two functions the first one", read(t, shape+name), 0, api.BadShape)
	wantFault(t, "of two functions the first one", read(t, name+shape), 0, api.BadName)
	wantFault(t, "a function ahead of a main that may not be", read(t, shape+"fn main(x: int) -> int { ret 1; }"), 0, api.BadShape)
	wantFault(t, "a main that isn't formed", read(t, "fn main(x: int) -> int { ret y; }"), 0, api.BadName)
	wantFault(t, "a main of a shape that may not be", read(t, "fn main['a]() -> box &'a int { ret 1; }"), 0, api.BadShape)
}

func TestMain(t *testing.T) {
	wantFault(t, "none", nil, 0, api.BadName)
	wantFault(t, "none", []api.Fn{}, 0, api.BadName)
	for s, why := range map[string]api.Code{
		"fn f() -> int { ret 1; }":                             api.BadName,
		"fn Main() -> int { ret 1; }":                          api.BadName,
		"fn main_() -> int { ret 1; }":                         api.BadName,
		"fn mai() -> int { ret 1; }":                           api.BadName,
		"fn f['a](x: int) -> box int { ret box 1; }":           api.BadName, // ahead of BadShape
		"fn main() -> int { ret 1; } fn f() -> int { ret 1; }": api.BadName,
		"fn main['a]() -> int { ret 1; }":                      api.BadShape,
		"fn main(x: int) -> int { ret 1; }":                    api.BadShape,
		"fn main() -> box int { ret box 1; }":                  api.BadShape,
		"fn main() -> (int, int) { ret (1, 1); }":              api.BadShape,
		"fn main['a](x: &'a int) -> &'a int { ret x; }":        api.BadShape,
	} {
		p := read(t, s)
		wantFault(t, s, p, len(p), why)
		p = append(read(t, "fn a() -> int { ret 1; } fn b() -> int { ret a(); }"), p...)
		wantFault(t, s, p, len(p), why)
	}
}

func TestProgramsThatAreNotRight(t *testing.T) {
	var fault *api.Fault
	wrong := api.Expr{Kind: 10}
	good := read(t, "fn f['a](x: &'a int) -> int { let y = x; ret *y; }"+endMain)
	for what, change := range map[string]func(f *api.Fn){
		"nothing":        func(f *api.Fn) { *f = api.Fn{} },
		"a name":         func(f *api.Fn) { f.Name = "fn" },
		"a life":         func(f *api.Fn) { f.Lives[0] = "'a" },
		"a Param":        func(f *api.Fn) { f.Params[0].Name = "" },
		"a type":         func(f *api.Fn) { f.Params[0].Type.Kids = nil },
		"a kind of type": func(f *api.Fn) { f.Gives.Kind = -1 },
		"Outs":           func(f *api.Fn) { f.Outs = []string{"a"} },
		"a statement":    func(f *api.Fn) { f.Body[0].Kind = 5 },
		"an Expr":        func(f *api.Fn) { f.Body[0].Expr = wrong },
		"a Place":        func(f *api.Fn) { f.Body[0].Place = f.Value },
		"a Value":        func(f *api.Fn) { f.Value = wrong },
		"too deep":       func(f *api.Fn) { f.Gives = times(41, integer, boxed) },
		"far too deep": func(f *api.Fn) {
			f.Value = times(1_000_000, f.Value, func(x api.Expr) api.Expr { return api.Expr{Kind: api.Deref, Kids: []api.Expr{x}} })
		},
		"too many": func(f *api.Fn) { f.Body = slices.Repeat(f.Body, 31) },
		"both":     func(f *api.Fn) { f.Name, f.Params[0].Type.Life, f.Value = "main", "b", wrong },
	} {
		p := read(t, "fn f['a](x: &'a int) -> int { let y = x; ret *y; }")
		change(&p[0])
		for _, q := range [][]api.Fn{p, append(slices.Clone(p), good...), append(slices.Clone(good), p...), append(read(t, "fn g() -> int { ret y; }"), p...)} {
			if e := names.Check(q); !errors.Is(e, api.BadForm) || errors.As(e, &fault) {
				t.Errorf("P4.2: %s: %v", what, e)
			}
		}
	}
}

// fill is a program of n functions, each of which calls the one ahead; the last one is main.
func fill(t *testing.T, n int) []api.Fn {
	t.Helper()
	s := ""
	for i := range n - 1 {
		name, calls := "f"+strings.Repeat("x", i), "1"
		if i > 0 {
			calls = "f" + strings.Repeat("x", i-1) + "()"
		}
		s += "fn " + name + "() -> int { ret " + calls + "; } "
	}
	return read(t, s+"fn main() -> int { ret 1; }")
}

func TestProgramsAtTheLimits(t *testing.T) {
	wantFormed(t, "30 functions", fill(t, 30))
	p := fill(t, 30)
	p[29].Value = api.Expr{Kind: api.Var, Name: "x"}
	wantFault(t, "30 functions, the last one wrong", p, 29, api.BadName)
	p[29].Name = "m"
	p[29].Value = p[0].Value
	wantFault(t, "30 functions without a main", p, 30, api.BadName)

	// Lets at each of many levels: all of their names are in scope at the last one.
	let := func(i int, x api.Expr) api.Stmt {
		return api.Stmt{Kind: api.Let, Name: "v" + strconv.Itoa(i), Expr: x}
	}
	v := func(i int) api.Expr { return api.Expr{Kind: api.Var, Name: let(i, api.Expr{}).Name} }
	one := api.Expr{Kind: api.Lit, Num: 1}
	const levels, each = 39, 29
	nested := func(last api.Stmt) []api.Fn {
		list := []api.Stmt{last}
		for level := levels - 1; level >= 0; level-- {
			var lets []api.Stmt
			for i := level * each; i < (level+1)*each; i++ {
				lets = append(lets, let(i, one))
			}
			list = append(lets, api.Stmt{Kind: api.If, Expr: one, Then: list})
			if level%2 == 0 {
				list[each].Then, list[each].Else = nil, list[each].Then
			}
		}
		f := endMainFn(t)
		f.Body = list
		return []api.Fn{f}
	}
	const n = levels * each
	for _, i := range []int{0, 1, each, n / 2, n - each, n - 1} {
		wantFormed(t, i, nested(let(n, v(i))))
		wantFault(t, i, nested(let(i, one)), 0, api.BadName)
	}
	wantFault(t, "itself", nested(let(n, v(n))), 0, api.BadName)
}

func endMainFn(t *testing.T) api.Fn { return read(t, endMain)[0] }

// withRoom is a list with one thing in its spare room.
func withRoom[T any](list []T, x T) []T { return append(slices.Clone(list), x)[:len(list)] }

func TestCheckChangesNothing(t *testing.T) {
	fresh := func() []api.Fn {
		p := read(t, "fn f['a](x: &'a int, y: (int, int)) -> int where 'a: 'a { let z = y.0; if z { let u = z; } else { z = *x; } ret z; } fn main() -> int { let x = 1; ret f(&x, (1, 2)); }")
		f := &p[0]
		f.Lives, f.Outs = withRoom(f.Lives, "r"), withRoom(f.Outs, "r")
		f.Params = withRoom(f.Params, api.Param{Name: "r"})
		f.Body = withRoom(f.Body, api.Stmt{Name: "r"})
		f.Body[1].Then = withRoom(f.Body[1].Then, api.Stmt{Name: "r"})
		p[1].Value.Kids = withRoom(p[1].Value.Kids, api.Expr{Name: "r"})
		return withRoom(p, api.Fn{Name: "r"})
	}
	room := func(p []api.Fn) []any {
		f := p[0]
		return []any{p[:3], f.Lives[:2], f.Outs[:3], f.Params[:3], f.Body[:3], f.Body[1].Then[:2], p[1].Value.Kids[:3]}
	}
	p := fresh()
	for range 3 { // nothing is kept from call to call
		wantFormed(t, "with spare room", p)
		wantFault(t, "none", nil, 0, api.BadName)
	}
	if !reflect.DeepEqual(room(p), room(fresh())) {
		t.Error("rule 3: a program, or its spare room, was changed")
	}
}

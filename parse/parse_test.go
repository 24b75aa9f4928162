package parse_test

import (
	"errors"
	"reflect"
	"strings"
	"testing"

	"lienbook/api"
	"lienbook/parse"
	"lienbook/tree"
)

// parsed is what Parse tells of a text in which nothing is wrong.
func parsed(t *testing.T, s string) []api.Fn {
	t.Helper()
	p, e := parse.Parse(s)
	if e != nil {
		t.Fatalf("P3.1: %q: %v", s, e)
	}
	if !tree.Right(p) {
		t.Fatalf("P3.1: %q: not right: %v", s, p)
	}
	return p
}

func wantFault(t *testing.T, s string, at int, code api.Code) {
	t.Helper()
	p, e := parse.Parse(s)
	var f *api.Fault
	if !errors.As(e, &f) || f.At != at || f.Err != code || len(p) != 0 {
		t.Errorf("P3.1: %q: got %v, %v, want a fault of %v at %d", s, p, e, code, at)
	}
}

func wantTooMuch(t *testing.T, what any, s string) {
	t.Helper()
	p, e := parse.Parse(s)
	var f *api.Fault
	if !errors.Is(e, api.TooMuch) || errors.As(e, &f) || len(p) != 0 {
		t.Errorf("P3.1: %v: got %v, %v, want TooMuch", what, p, e)
	}
}

// What stands ahead of an expression, of a statement, and of a type, and what behind it.
const (
	exprHead, exprTail = "fn m() -> int { ret ", "; }"
	stmtHead, stmtTail = "fn m() -> int { ", " ret 1; }"
	typeHead, typeTail = "fn m() -> ", " { ret 1; }"
)

func v(name string) api.Expr { return api.Expr{Kind: api.Var, Name: name} }

func lit(n int64) api.Expr { return api.Expr{Kind: api.Lit, Num: n} }

// of is an expression of a kind, with kids.
func of(kind int, kids ...api.Expr) api.Expr { return api.Expr{Kind: kind, Kids: kids} }

func part(n int64, x api.Expr) api.Expr {
	return api.Expr{Kind: api.Part, Num: n, Kids: []api.Expr{x}}
}

func lend(mut bool, x api.Expr) api.Expr {
	return api.Expr{Kind: api.Lend, Mut: mut, Kids: []api.Expr{x}}
}

// named is an operation, or a call.
func named(kind int, name string, kids ...api.Expr) api.Expr {
	return api.Expr{Kind: kind, Name: name, Kids: kids}
}

func op(name string, x, y api.Expr) api.Expr { return named(api.Oper, name, x, y) }

func TestTreesOfExpressions(t *testing.T) {
	a, b, c := v("a"), v("b"), v("c")
	call := func(kids ...api.Expr) api.Expr { return named(api.Call, "f", kids...) }
	for s, want := range map[string]api.Expr{
		"0": lit(0), "7": lit(7), "007": lit(7), "000000000000000012": lit(12), "999999999999999999": lit(1e18 - 1), "(1)": lit(1), "((((1))))": lit(1),
		"a": a, "(a)": a, "((a))": a, "fnx": v("fnx"), "_": v("_"), strings.Repeat("x", 30): v(strings.Repeat("x", 30)),
		"a.0": part(0, a), "a.29": part(29, a), "a.007": part(7, a), "a.000000000000000029": part(29, a), "a.1.2": part(2, part(1, a)), "(a.1).2": part(2, part(1, a)), "((a)).0.1": part(1, part(0, a)), "((a).0).1": part(1, part(0, a)), "a . 1 .2": part(2, part(1, a)),
		"*a": of(api.Deref, a), "**a": of(api.Deref, of(api.Deref, a)), "*a.0": of(api.Deref, part(0, a)), "*(a.0)": of(api.Deref, part(0, a)), "(*a).0": part(0, of(api.Deref, a)), "((*(a))).0": part(0, of(api.Deref, a)), "*(*a).0": of(api.Deref, part(0, of(api.Deref, a))), "*(*(a)).0": of(api.Deref, part(0, of(api.Deref, a))), "(**a).1.2": part(2, part(1, of(api.Deref, of(api.Deref, a)))), "(*a)": of(api.Deref, a),
		"&a": lend(false, a), "&mut a": lend(true, a), "&(a)": lend(false, a), "&mut(a).1": lend(true, part(1, a)), "&*a": lend(false, of(api.Deref, a)), "&mut *a.1": lend(true, of(api.Deref, part(1, a))), "&(*a).1": lend(false, part(1, of(api.Deref, a))), "(&a)": lend(false, a),
		"box a": of(api.New, a), "box box 1": of(api.New, of(api.New, lit(1))), "box(a)": of(api.New, a), "box (a).1": of(api.New, part(1, a)), "box *a": of(api.New, of(api.Deref, a)), "box &mut a": of(api.New, lend(true, a)), "box (a, b)": of(api.New, of(api.Row, a, b)), "box f(a)": of(api.New, call(a)), "box a + b": op("+", of(api.New, a), b), "box (a + b)": of(api.New, op("+", a, b)), "a * box b / c": op("/", op("*", a, of(api.New, b)), c),
		"(a, b)": of(api.Row, a, b), "((a), b, (c))": of(api.Row, a, b, c), "(a, (b, c))": of(api.Row, a, of(api.Row, b, c)), "((a, b), c)": of(api.Row, of(api.Row, a, b), c), "((a, b))": of(api.Row, a, b), "(a < b, a + b)": of(api.Row, op("<", a, b), op("+", a, b)), "(a, 1) == (b, 2)": op("==", of(api.Row, a, lit(1)), of(api.Row, b, lit(2))),
		"f()": call(), "f(a)": call(a), "f((a))": call(a), "f(a, b)": call(a, b), "f((a, b))": call(of(api.Row, a, b)), "f(f(), f(f(c)))": call(call(), call(call(c))), "f (a == b, &c)": call(op("==", a, b), lend(false, c)), "(f(a))": call(a), "f(1)*f()": op("*", call(lit(1)), call()),
		"a + b": op("+", a, b), "a-b-c": op("-", op("-", a, b), c), "a-(b-c)": op("-", a, op("-", b, c)), "(a-b)-c": op("-", op("-", a, b), c), "a+b-c": op("-", op("+", a, b), c), "a/b*c": op("*", op("/", a, b), c), "a/(b*c)": op("/", a, op("*", b, c)), "a*b/c": op("/", op("*", a, b), c),
		"a+b*c": op("+", a, op("*", b, c)), "a*b+c": op("+", op("*", a, b), c), "(a+b)*c": op("*", op("+", a, b), c), "a*(b+c)": op("*", a, op("+", b, c)), "a - b / c": op("-", a, op("/", b, c)),
		"a<b": op("<", a, b), "a==b": op("==", a, b), "a<b+c": op("<", a, op("+", b, c)), "a*b==c": op("==", op("*", a, b), c), "(a<b)<c": op("<", op("<", a, b), c), "a==(b<c)": op("==", a, op("<", b, c)), "(a==b)+c": op("+", op("==", a, b), c),
		"a**b": op("*", a, of(api.Deref, b)), "a* * *b": op("*", a, of(api.Deref, of(api.Deref, b))), "*a**b": op("*", of(api.Deref, a), of(api.Deref, b)), "*a.1*b": op("*", of(api.Deref, part(1, a)), b), "&a+&b": op("+", lend(false, a), lend(false, b)), "a.1+b.2": op("+", part(1, a), part(2, b)), "(*a).0 + 1": op("+", part(0, of(api.Deref, a)), lit(1)),
	} {
		for _, in := range [][2]string{{"", ""}, {"(", ")"}, {" // ahead\n", "\t\n"}} {
			p := parsed(t, exprHead+in[0]+s+in[1]+exprTail)
			if len(p) != 1 || !reflect.DeepEqual(p[0].Value, want) {
				t.Errorf("P3.1: %q: got %v, want %v", s, p, want)
			}
		}
	}
}

func TestTreesOfTypes(t *testing.T) {
	integer := api.Type{Kind: api.Int}
	kind := func(kind int, kids ...api.Type) api.Type { return api.Type{Kind: kind, Kids: kids} }
	ref := func(life string, mut bool, x api.Type) api.Type {
		return api.Type{Kind: api.Ref, Life: life, Mut: mut, Kids: []api.Type{x}}
	}
	for s, want := range map[string]api.Type{
		"int": integer, "box int": kind(api.Box, integer), "box box int": kind(api.Box, kind(api.Box, integer)),
		"(int,int)": kind(api.Tuple, integer, integer), "(int, box int, int)": kind(api.Tuple, integer, kind(api.Box, integer), integer), "((int, int), (int, int))": kind(api.Tuple, kind(api.Tuple, integer, integer), kind(api.Tuple, integer, integer)), "box(int,int)": kind(api.Box, kind(api.Tuple, integer, integer)),
		"&'a int": ref("a", false, integer), "&'a mut int": ref("a", true, integer), "&'a &'b mut box int": ref("a", false, ref("b", true, kind(api.Box, integer))), "& 'x_1 mut(int,&'y int)": ref("x_1", true, kind(api.Tuple, integer, ref("y", false, integer))),
	} {
		p := parsed(t, typeHead+s+typeTail)
		if len(p) != 1 || !reflect.DeepEqual(p[0].Gives, want) {
			t.Errorf("P3.1: %q: got %v, want %v", s, p, want)
		}
		p = parsed(t, "fn m(x: int, y:"+s+") -> int { ret 1; }")
		if len(p) != 1 || !reflect.DeepEqual(p[0].Params, []api.Param{{Name: "x", Type: integer}, {Name: "y", Type: want}}) {
			t.Errorf("P3.1: %q: got %v, want %v", s, p, want)
		}
	}
}

func TestTreesOfStatements(t *testing.T) {
	let := func(name string, n int64) api.Stmt { return api.Stmt{Kind: api.Let, Name: name, Expr: lit(n)} }
	set := func(x api.Expr, n int64) api.Stmt { return api.Stmt{Kind: api.Set, Place: x, Expr: lit(n)} }
	for s, want := range map[string][]api.Stmt{
		"": nil, "let x = 1;": {let("x", 1)}, "x = 1;": {set(v("x"), 1)}, "let x=1;let y=2;x=3;": {let("x", 1), let("y", 2), set(v("x"), 3)},
		"(x) = 1;": {set(v("x"), 1)}, "x.1.2=1;": {set(part(2, part(1, v("x"))), 1)}, "*x=1;": {set(of(api.Deref, v("x")), 1)}, "(*x).0=1;*(x)=2;": {set(part(0, of(api.Deref, v("x"))), 1), set(of(api.Deref, v("x")), 2)}, "(((*x)).0).1 = 1;": {set(part(1, part(0, of(api.Deref, v("x")))), 1)},
		"if 1 { } else { }":                      {{Kind: api.If, Expr: lit(1)}},
		"if x{x=1;}else{let y=2;x=3;}":           {{Kind: api.If, Expr: v("x"), Then: []api.Stmt{set(v("x"), 1)}, Else: []api.Stmt{let("y", 2), set(v("x"), 3)}}},
		"repeat 0 { }":                           {{Kind: api.Repeat, Expr: lit(0)}},
		"repeat 2 {x=1;} *x=2;":                  {{Kind: api.Repeat, Expr: lit(2), Then: []api.Stmt{set(v("x"), 1)}}, set(of(api.Deref, v("x")), 2)},
		"repeat 1{repeat 2{repeat 3{}}}":         {{Kind: api.Repeat, Expr: lit(1), Then: []api.Stmt{{Kind: api.Repeat, Expr: lit(2), Then: []api.Stmt{{Kind: api.Repeat, Expr: lit(3)}}}}}},
		"if f(1) < (2) { repeat x {} } else { }": {{Kind: api.If, Expr: op("<", named(api.Call, "f", lit(1)), lit(2)), Then: []api.Stmt{{Kind: api.Repeat, Expr: v("x")}}}},
	} {
		p := parsed(t, stmtHead+s+stmtTail)
		if len(p) != 1 || !reflect.DeepEqual(p[0].Body, want) || !reflect.DeepEqual(p[0].Value, lit(1)) {
			t.Errorf("P3.1: %q: got %v, want %v", s, p, want)
		}
	}
}

func TestTreesOfPrograms(t *testing.T) {
	integer := api.Type{Kind: api.Int}
	f := api.Fn{Name: "f", Gives: integer, Value: lit(1)}
	g := api.Fn{
		Name: "g", Lives: []string{"a", "b"}, Params: []api.Param{{Name: "x", Type: api.Type{Kind: api.Ref, Life: "a", Mut: true, Kids: []api.Type{integer}}}},
		Gives: integer, Outs: []string{"a", "b", "b", "a"}, Body: []api.Stmt{{Kind: api.Let, Name: "y", Expr: v("x")}}, Value: of(api.Deref, v("y")),
	}
	h := api.Fn{Name: "h", Lives: []string{"c"}, Gives: integer, Outs: []string{"c", "c"}, Value: lit(2)}
	for s, want := range map[string][]api.Fn{
		"": nil, " \t\n": nil, "// nothing": nil,
		"fn f() -> int { ret 1; }":     {f},
		"fn f()->int{ret 1;}// behind": {f},
		"fn g['a, 'b](x: &'a mut int) -> int where 'a: 'b, 'b: 'a { let y = x; ret *y; }":                                                                              {g},
		"fn h['c]()->int where 'c:'c{ret 2;}fn f()->int{ret 1;}fn h['c]()->int where 'c:'c{ret 2;}\nfn g['a,'b](x:&'a mut int)->int where 'a:'b,'b:'a{let y=x;ret*y;}": {h, f, h, g},
	} {
		if p := parsed(t, s); len(p) != len(want) || len(p) > 0 && !reflect.DeepEqual(p, want) {
			t.Errorf("P3.1: %q: got %v, want %v", s, p, want)
		}
	}
}

func TestNoProgram(t *testing.T) {
	for _, head := range []string{"", exprHead + "1" + exprTail + "\n"} {
		for s, at := range map[string]int{
			"x": 0, "1": 0, "}": 0, ";": 0, "let": 0, "fn": 2, "fn ": 3, "fn // x": 7, "fn 1": 3, "fn fn": 3, "fn 'a": 3, "fn f": 4, "fn f[": 5, "fn f{": 4,
			"fn f[]() -> int { ret 1; }": 5, "fn f[a]": 5, "fn f['a,]": 8, "fn f['a 'b]": 8, "fn f['fn]": 5, "fn f['a[": 7, "fn f['a]['b]": 8,
			"fn f(,)": 5, "fn f(x)": 6, "fn f(x: )": 8, "fn f(x: int": 11, "fn f(x: int,)": 12, "fn f(x: int y: int)": 12, "fn f(int: int)": 5, "fn f('a: int)": 5, "fn f(x: y)": 8, "fn f(x, y: int)": 6,
			"fn f() int": 7, "fn f() - -> int": 7, "fn f() { ret 1; }": 7, "fn f() -> { ret 1; }": 10, "fn f() -> int ret": 14, "fn f() -> int;": 13,
			"fn f() -> int where {": 20, "fn f() -> int where 'a {": 23, "fn f() -> int where 'a: b {": 24, "fn f() -> int where 'a: 'b, {": 28, "fn f() -> int where 'a: 'b 'c: 'd {": 27, "fn f() -> int where 'a: 'where {": 24, "fn f() -> int where 'box: 'a {": 20, "fn f() -> int where 'a: 'b: 'c": 26,
			"fn f() -> int { }": 16, "fn f() -> int { ret }": 20, "fn f() -> int { ret 1 }": 22, "fn f() -> int { ret 1;; }": 22, "fn f() -> int { ret 1; x": 23, "fn f() -> int { ret 1;": 22, "fn f() -> int { ret 1; } }": 25, "fn f() -> int { ret 1; } ; fn": 25, "fn f() -> int { ret 1; } fn": 27,
		} {
			wantFault(t, head+s, len(head)+at, api.BadForm)
		}
	}
}

func TestNoType(t *testing.T) {
	for s, at := range map[string]int{
		"": 1, "1": 0, "x": 0, "mut int": 0, "box": 4, "box {": 4, "()": 1, "(int)": 4, "(int,)": 5, "(int, int,)": 10, "(int int)": 5, "(int; int)": 4, "((int, int))": 11, "(": 2,
		"& int": 2, "&int": 1, "&mut int": 1, "&a int": 1, "&'a": 4, "&'a 'b int": 4, "&'a mut mut int": 8, "&'mut int": 1, "&'int int": 1, "'a int": 0, "*int": 0, "&&'a int": 1, "int int": 4, "int mut": 4, "box (int)": 8,
	} {
		wantFault(t, typeHead+s+typeTail, len(typeHead)+at, api.BadForm)
	}
}

func TestNoStatement(t *testing.T) {
	for s, at := range map[string]int{
		";": 0, "1 = 2;": 0, "x;": 1, "x": 2, "x + 1;": 2, "x == 1;": 2, "f();": 1, "f(x) = 1;": 1, "&x = 1;": 0, "box x = 1;": 0, "'a = 1;": 0, "{ }": 0, "mut x = 1;": 0, "int = 1;": 0, "else { }": 0, "where": 0, "fn": 0,
		"(x + 1) = 2;": 3, "(1) = 2;": 1, "(x, y) = 2;": 2, "(x = 1);": 3, "() = 1;": 1, "(f(x)).1 = 2;": 2, "(&x) = 1;": 1, "(box x) = 1;": 1, "*1 = 2;": 1, "*&x = 1;": 1, "*f() = 1;": 2, "((x)": 5, "x.30 = 1;": 2, "x.y = 1;": 2, "x. = 1;": 3, "x.1 2": 4,
		"x = ;": 4, "x = 1": 6, "x = 1 y = 2;": 6, "x = y = 1;": 6, "x == 1": 2, "x = let;": 4, "= 1;": 0,
		"let": 4, "let 1 = 2;": 4, "let x;": 5, "let x 1;": 6, "let x == 1;": 6, "let x.1 = 2;": 5, "let *x = 1;": 4, "let mut x = 1;": 4, "let ret = 1;": 4, "let x = ;": 8, "let x = 1,": 9, "let (x) = 1;": 4, "let x: int = 1;": 5, "let 'a = 1;": 4,
		"if { } else { }": 3, "if 1 x = 1;": 5, "if 1 { }": 9, "if 1 { } x = 1;": 9, "if 1 { } else x = 1;": 14, "if 1 { } else if 1 { } else { }": 14, "if 1 { ret 1; } else { }": 7, "if 1 ; else": 5, "if 1 { } else { ;": 16, "if x = 1 { }": 5, "if 1 { } else { } else { }": 18,
		"repeat { }": 7, "repeat 1 x = 1;": 9, "repeat 1 { } else { }": 13, "repeat 1 { ret 1; }": 11, "repeat 1 { x }": 13, "repeat repeat": 7, "repeat 1 { };": 12,
	} {
		wantFault(t, stmtHead+s+stmtTail, len(stmtHead)+at, api.BadForm)
	}
}

func TestNoExpression(t *testing.T) {
	for s, at := range map[string]int{
		"": 0, "1 2": 2, "1x": 1, "x y": 2, "x 'a": 2, "'a": 0, "- 1": 0, "-1": 0, "+a": 0, "/a": 0, "<a": 0, "=a": 0, "a = b": 2, "a -> b": 2, "a & b": 2,
		"a+": 2, "a-": 2, "a*": 2, "a/": 2, "a<": 2, "a==": 3, "a+*": 3, "a+/b": 2, "a--b": 2, "a<b<c": 3, "a==b<c": 4, "a<b==c": 3, "a==b==c": 4, "a<b+c<d": 5, "(a<b<c)": 4, "a<==b": 2,
		"x.30": 2, "x.31": 2, "x.100": 2, "x.000000000000000030": 2, "x.999999999999999999": 2, "x.y": 2, "x.": 2, "x..1": 2, "x.-1": 2, "x.(1)": 2, "x.1x": 3, "x.1.30": 4, "1.0": 1, "x.'a": 2, ".1": 0,
		"(1).0": 3, "f().0": 3, "(f(a)).0": 6, "(a, b).0": 6, "(a+b).0": 5, "(a<b).0": 5, "(&a).0": 4, "(box a).0": 7, "((a, b)).0": 8, "((1)).0": 5, "((a)+b).0": 7,
		"&1": 1, "&f()": 2, "&&a": 1, "&box a": 1, "&(a+b)": 3, "&(1)": 2, "&(a, b)": 3, "&(f())": 3, "&mut": 4, "&mut mut a": 5, "&mut 1": 5, "&'a a": 1, "&": 1, "&(&a)": 2, "&(a<b)": 3, "& mut f(a)": 7, "mut a": 0,
		"*1": 1, "*": 1, "*f()": 2, "*&a": 1, "*box a": 1, "*(a+b)": 3, "*(1)": 2, "*(a, b)": 3, "*(&a)": 2, "*(f(a))": 3, "**1": 2, "*mut a": 1,
		"box": 3, "box;": 3, "box + a": 4, "box int": 4, "box ()": 5, "box (a,)": 7, "box let": 4,
		"()": 1, "(": 1, "(a": 2, "(a,": 3, "(a,)": 3, "(a,b,)": 5, "(,a)": 1, "(a b)": 3, "(a;b)": 2, "a)": 1, "((a)": 4, "(a))": 3, "(a]": 2, "(a = b)": 3, "[a]": 0, "{ a }": 0,
		"f(": 2, "f(1": 3, "f(1,)": 4, "f(,)": 2, "f(1 2)": 4, "f(a)(b)": 4, "(f)(a)": 3, "f.1(a)": 3, "1(a)": 1, "box(a)(b)": 6, "f(;)": 2, "f[a]": 1, "(f(a)": 5, "f(a)1": 4, "(*f)(a)": 4,
		"let": 0, "if": 0, "ret": 0, "fn": 0, "int": 0, "mut": 0, "where": 0, "else": 0, "repeat": 0, "int()": 0, "a + ret": 4, "a.where": 2, "a, b": 1, "a: b": 1,
	} {
		wantFault(t, exprHead+s+exprTail, len(exprHead)+at, api.BadForm)
	}
}

func TestWordsThatAreNoNames(t *testing.T) {
	for _, s := range []string{"fn", "let", "if", "else", "repeat", "ret", "box", "int", "mut", "where"} {
		for _, x := range []struct{ head, tail string }{
			{"fn ", "() -> int { ret 1; }"}, {"fn f['", "]() -> int { ret 1; }"}, {"fn f['a, '", "]() -> int { ret 1; }"}, {"fn f(", ": int) -> int { ret 1; }"},
			{"fn f() -> &'", " int { ret 1; }"}, {"fn f() -> int where '", ": 'a { ret 1; }"}, {"fn f() -> int where 'a: '", " { ret 1; }"},
			{stmtHead + "let ", " = 1; ret 1; }"}, {exprHead + "*", exprTail}, {exprHead + "&", exprTail}, {exprHead, ".0" + exprTail},
		} {
			at := len(strings.TrimSuffix(x.head, "'"))
			if x.head == exprHead+"&" && s == "mut" || x.head == exprHead && s == "box" {
				at = len(x.head + s)
			}
			wantFault(t, x.head+s+x.tail, at, api.BadForm)
			for _, name := range []string{s + "_", "_" + s, strings.ToUpper(s), s + "1"} {
				parsed(t, x.head+name+x.tail)
			}
		}
	}
}

func TestTextsThatEndTooEarly(t *testing.T) {
	const s = "fn f['a, 'b](x: box (int, int), y: &'b mut int) -> &'b int where 'a: 'b { let z = box (1 + x.1); if z < 2 { *y = f(1, z); } else { repeat 3 { (*z).0 = 4; } } ret &mut *y; }"
	parsed(t, s)
	for i := 1; i < len(s); i++ {
		if s[i-1] == ' ' || s[i] == ' ' {
			for _, blank := range []string{"", " ", "\n\t", " // and no more\n", "//"} {
				wantFault(t, s[:i]+blank, len(s[:i]+blank), api.BadForm)
			}
		}
	}
}

package tree_test

import (
	"lienbook/api"
	"slices"
	"strings"
)

// What the tests make trees of.

var (
	integer  = api.Type{Kind: api.Int}
	noName   = []string{"", " ", "1", "1a", "a b", " a", "a ", "a\n", "a//", "'a", "a'", "a.b", "é", "aé", "a\x00", "\xff", "+", strings.Repeat("x", 31), strings.Repeat("x", 20001), "fn", "let", "if", "else", "repeat", "ret", "box", "int", "mut", "where"}
	goodName = []string{"a", "Z", "_", "_1", "x_Y9", "main", "Fn", "lets", "i", "int_", "bo", strings.Repeat("x", 30)}
)

func v(name string) api.Expr { return api.Expr{Kind: api.Var, Name: name} }

func lit(n int64) api.Expr { return api.Expr{Kind: api.Lit, Num: n} }

func op(name string, kids ...api.Expr) api.Expr {
	return api.Expr{Kind: api.Oper, Name: name, Kids: kids}
}

func part(n int64, x api.Expr) api.Expr {
	return api.Expr{Kind: api.Part, Num: n, Kids: []api.Expr{x}}
}

func deref(x api.Expr) api.Expr { return api.Expr{Kind: api.Deref, Kids: []api.Expr{x}} }

func lend(mut bool, x api.Expr) api.Expr {
	return api.Expr{Kind: api.Lend, Mut: mut, Kids: []api.Expr{x}}
}

func box(x api.Expr) api.Expr { return api.Expr{Kind: api.New, Kids: []api.Expr{x}} }

func row(kids ...api.Expr) api.Expr { return api.Expr{Kind: api.Row, Kids: kids} }

func call(name string, kids ...api.Expr) api.Expr {
	return api.Expr{Kind: api.Call, Name: name, Kids: kids}
}

func boxed(t api.Type) api.Type { return api.Type{Kind: api.Box, Kids: []api.Type{t}} }

func tuple(kids ...api.Type) api.Type { return api.Type{Kind: api.Tuple, Kids: kids} }

func ref(life string, mut bool, t api.Type) api.Type {
	return api.Type{Kind: api.Ref, Life: life, Mut: mut, Kids: []api.Type{t}}
}

func let(name string, x api.Expr) api.Stmt { return api.Stmt{Kind: api.Let, Name: name, Expr: x} }

func set(place, x api.Expr) api.Stmt { return api.Stmt{Kind: api.Set, Place: place, Expr: x} }

func when(x api.Expr, then, other []api.Stmt) api.Stmt {
	return api.Stmt{Kind: api.If, Expr: x, Then: then, Else: other}
}

func repeat(x api.Expr, then ...api.Stmt) api.Stmt {
	return api.Stmt{Kind: api.Repeat, Expr: x, Then: then}
}

// main is a program of one function.
func main(x api.Expr, body ...api.Stmt) []api.Fn {
	return []api.Fn{{Name: "main", Gives: integer, Body: body, Value: x}}
}

// giving is a program whose one function gives that back.
func giving(t api.Type) []api.Fn { return []api.Fn{{Name: "f", Gives: t, Value: lit(1)}} }

// with is a program that is right, but for what change does to its one function.
func with(change func(f *api.Fn)) []api.Fn {
	p := main(lit(1))
	change(&p[0])
	return p
}

// times puts something around x n times.
func times[T any](n int, x T, around func(T) T) T {
	for range n {
		x = around(x)
	}
	return x
}

// program has every kind of everything.
func program() []api.Fn {
	return []api.Fn{
		{Name: "none", Gives: integer, Value: lit(0)},
		{
			Name:   "f",
			Lives:  []string{"a", "b"},
			Params: []api.Param{{Name: "x", Type: ref("a", true, tuple(integer, boxed(integer)))}, {Name: "y", Type: integer}},
			Gives:  ref("b", false, integer),
			Outs:   []string{"a", "b", "b", "a"},
			Body: []api.Stmt{
				let("z", box(op("+", v("y"), lit(7)))),
				when(op("<", v("y"), lit(3)),
					[]api.Stmt{set(part(0, deref(v("x"))), call("none"))},
					[]api.Stmt{repeat(lit(2), set(deref(v("z")), row(v("y"), lend(true, v("y")))))}),
			},
			Value: lend(false, deref(v("x"))),
		},
	}
}

// The texts of program's functions.
const programText = "fn none() -> int {\n\tret 0;\n}\n" +
	"fn f['a, 'b](x: &'a mut (int, box int), y: int) -> &'b int where 'a: 'b, 'b: 'a {\n" +
	"\tlet z = box (y + 7);\n" +
	"\tif y < 3 {\n\t\t(*x).0 = none();\n\t} else {\n\t\trepeat 2 {\n\t\t\t*z = (y, &mut y);\n\t\t}\n\t}\n" +
	"\tret &*x;\n}\n"

// many is n of one thing.
func many[T any](n int, x T) []T { return slices.Repeat([]T{x}, n) }

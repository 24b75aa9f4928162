package tree_test

import (
	"errors"
	"strings"
	"testing"

	"lienbook/api"
	"lienbook/tree"
)

func wantText(t *testing.T, p []api.Fn, want string) {
	t.Helper()
	if s, e := tree.Print(p); e != nil || s != want {
		t.Errorf("P2.2: %q, %v, want %q", s, e, want)
	}
}

// textOf is an expression's text.
func textOf(t *testing.T, x api.Expr) string {
	t.Helper()
	s, e := tree.Print(main(x))
	s, ahead := strings.CutPrefix(s, "fn main() -> int {\n\tret ")
	s, behind := strings.CutSuffix(s, ";\n}\n")
	if e != nil || !ahead || !behind {
		t.Fatalf("P2.2: %v: %q, %v", x, s, e)
	}
	return s
}

func TestTextOfPrograms(t *testing.T) {
	wantText(t, nil, "")
	wantText(t, []api.Fn{}, "")
	wantText(t, program(), programText)
	wantText(t, append(program(), main(lit(0))...), programText+"fn main() -> int {\n\tret 0;\n}\n")
	// The chapter's example.
	wantText(t, []api.Fn{{Name: "f", Lives: []string{"a"}, Params: []api.Param{{Name: "x", Type: ref("a", false, integer)}}, Gives: integer, Value: op("+", deref(v("x")), lit(1))}},
		"fn f['a](x: &'a int) -> int {\n\tret *x + 1;\n}\n")
}

func TestTextOfHeads(t *testing.T) {
	for want, change := range map[string]func(*api.Fn){
		"fn main()":       func(f *api.Fn) {},
		"fn main['a]()":   func(f *api.Fn) { f.Lives = []string{"a"} },
		"fn main(x: int)": func(f *api.Fn) { f.Params = []api.Param{{Name: "x", Type: integer}} },
		"fn main['a, 'b, 'c](x: int, y: box int, z: int)": func(f *api.Fn) {
			f.Lives = []string{"a", "b", "c"}
			f.Params = []api.Param{{Name: "x", Type: integer}, {Name: "y", Type: boxed(integer)}, {Name: "z", Type: integer}}
		},
	} {
		wantText(t, with(change), want+" -> int {\n\tret 1;\n}\n")
	}
	for want, outs := range map[string][]string{
		"":                              nil,
		" where 'a: 'b":                 {"a", "b"},
		" where 'a: 'a, 'b: 'a, 'c: 'b": {"a", "a", "b", "a", "c", "b"},
	} {
		wantText(t, with(func(f *api.Fn) { f.Outs = outs }), "fn main() -> int"+want+" {\n\tret 1;\n}\n")
	}
}

func TestTextOfTypes(t *testing.T) {
	for want, x := range map[string]api.Type{
		"int":                           integer,
		"box int":                       boxed(integer),
		"box box int":                   boxed(boxed(integer)),
		"(int, int)":                    tuple(integer, integer),
		"(int, (int, int))":             tuple(integer, tuple(integer, integer)),
		"(box int, int, int)":           tuple(boxed(integer), integer, integer),
		"box (int, int)":                boxed(tuple(integer, integer)),
		"&'a int":                       ref("a", false, integer),
		"&'a mut int":                   ref("a", true, integer),
		"&'a &'b mut box int":           ref("a", false, ref("b", true, boxed(integer))),
		"(&'a int, &'b mut (int, int))": tuple(ref("a", false, integer), ref("b", true, tuple(integer, integer))),
	} {
		wantText(t, giving(x), "fn f() -> "+want+" {\n\tret 1;\n}\n")
		wantText(t, with(func(f *api.Fn) { f.Params = []api.Param{{Name: "x", Type: x}} }), "fn main(x: "+want+") -> int {\n\tret 1;\n}\n")
	}
}

func TestTextOfExpressions(t *testing.T) {
	a, b, c := v("a"), v("b"), v("c")
	for want, x := range map[string]api.Expr{
		"0": lit(0), "7": lit(7), "999999999999999999": lit(1e18 - 1), "a": a,
		"a.0": part(0, a), "a.29.3": part(3, part(29, a)), "(*a).0": part(0, deref(a)), "*a.0": deref(part(0, a)), "(**a).1": part(1, deref(deref(a))), "(*(*a).2).1": part(1, deref(part(2, deref(a)))), "*(*a).2": deref(part(2, deref(a))), "**a": deref(deref(a)),
		"&a": lend(false, a), "&mut a": lend(true, a), "&*a": lend(false, deref(a)), "&mut (*a).0": lend(true, part(0, deref(a))), "&mut *a.0": lend(true, deref(part(0, a))),
		"box a": box(a), "box box 1": box(box(lit(1))), "box (a + b)": box(op("+", a, b)), "box (a < b)": box(op("<", a, b)), "box (a, b)": box(row(a, b)), "box &a": box(lend(false, a)), "box *a": box(deref(a)), "box f(a)": box(call("f", a)),
		"(a, b)": row(a, b), "(a, (b, c), 1)": row(a, row(b, c), lit(1)), "(a + b, a < b)": row(op("+", a, b), op("<", a, b)),
		"f()": call("f"), "f(a)": call("f", a), "f((a, b))": call("f", row(a, b)), "f(a, g(), &b)": call("f", a, call("g"), lend(false, b)), "f(a + b)": call("f", op("+", a, b)),
		"box a + b": op("+", box(a), b), "&a + b": op("+", lend(false, a), b), "*a * *b": op("*", deref(a), deref(b)), "(a, b) < f()": op("<", row(a, b), call("f")),
	} {
		if got := textOf(t, x); got != want {
			t.Errorf("P2.2: %q, want %q", got, want)
		}
	}
}

// TestTextOfOperations holds all operations of operations against the chapter's words on strength.
func TestTextOfOperations(t *testing.T) {
	a, b, c := v("a"), v("b"), v("c")
	ops := []string{"<", "==", "+", "-", "*", "/"}
	for i, o := range ops {
		for k, in := range ops {
			strong, kid := i/2, k/2
			first, second := "a "+in+" b "+o+" c", "a "+o+" b "+in+" c"
			if kid < strong || strong == 0 && kid == 0 {
				first = "(a " + in + " b) " + o + " c"
			}
			if kid <= strong {
				second = "a " + o + " (b " + in + " c)"
			}
			if got := textOf(t, op(o, op(in, a, b), c)); got != first {
				t.Errorf("P2.2: %q, want %q", got, first)
			}
			if got := textOf(t, op(o, a, op(in, b, c))); got != second {
				t.Errorf("P2.2: %q, want %q", got, second)
			}
		}
	}
	if got, want := textOf(t, op("==", op("<", a, b), op("<", b, c))), "(a < b) == (b < c)"; got != want {
		t.Errorf("P2.2: %q, want %q", got, want)
	}
}

// small is every expression of some kinds that is no deeper than n, parentheses not counted.
func small(n int) []api.Expr {
	out := []api.Expr{v("a"), lit(1)}
	if n == 0 {
		return out
	}
	kids := small(n - 1)
	for _, x := range kids {
		if x.Kind == api.Var || x.Kind == api.Part || x.Kind == api.Deref {
			out = append(out, part(1, x), deref(x), lend(true, x))
		}
		out = append(out, box(x), call("f", x))
		for _, y := range kids {
			out = append(out, op("<", x, y), op("==", x, y), op("-", x, y), op("+", x, y), op("*", x, y), row(x, y))
		}
	}
	return out
}

func TestEachExpressionHasATextOfItsOwn(t *testing.T) {
	seen := map[string]bool{}
	for _, x := range small(2) {
		s := textOf(t, x)
		if seen[s] {
			t.Fatalf("P2.2: %q is the text of two expressions", s)
		}
		seen[s] = true
	}
	if len(seen) < 5000 {
		t.Errorf("%d expressions", len(seen))
	}
}

func TestTextOfStatements(t *testing.T) {
	one := []api.Stmt{let("y", lit(1))}
	two := []api.Stmt{let("y", lit(1)), set(v("y"), lit(2))}
	for want, body := range map[string][]api.Stmt{
		"":                              nil,
		"\tlet x = box 1;\n":            {let("x", box(lit(1)))},
		"\tx = 1;\n\t(*x).0 = a + 1;\n": {set(v("x"), lit(1)), set(part(0, deref(v("x"))), op("+", v("a"), lit(1)))},
		"\tif 1 {\n\t} else {\n\t}\n":   {when(lit(1), nil, nil)},
		"\tif a < 1 {\n\t\tlet y = 1;\n\t} else {\n\t\tlet y = 1;\n\t\ty = 2;\n\t}\n": {when(op("<", v("a"), lit(1)), one, two)},
		"\trepeat 3 {\n\t}\n": {repeat(lit(3))},
		"\trepeat a {\n\t\tlet y = 1;\n\t\ty = 2;\n\t}\n\tx = 1;\n":                                             {repeat(v("a"), two...), set(v("x"), lit(1))},
		"\trepeat 1 {\n\t\trepeat 2 {\n\t\t\tif 3 {\n\t\t\t\tlet y = 1;\n\t\t\t} else {\n\t\t\t}\n\t\t}\n\t}\n": {repeat(lit(1), repeat(lit(2), when(lit(3), one, nil)))},
	} {
		wantText(t, main(lit(0), body...), "fn main() -> int {\n"+want+"\tret 0;\n}\n")
	}
}

// sized is a program that is right and whose text has so many bytes (at least 3000, as a last function is filled up).
func sized(t *testing.T, bytes int) []api.Fn {
	t.Helper()
	long := strings.Repeat("x", 30)
	whole := main(lit(1), many(30, let(long, op("+", v(long), v(long))))...)[0]
	text, _ := tree.Print([]api.Fn{whole})
	var p []api.Fn
	for bytes >= 2*len(text) {
		p = append(p, whole)
		bytes -= len(text)
	}
	for _, share := range []int{bytes / 2, bytes - bytes/2} {
		share -= len("fn main() -> int {\n\tret 1;\n}\n")
		var body []api.Stmt
		for share > 0 {
			n := min(share, 103) // 103 has a Let of the longest names, 16 one of the shortest
			if left := share - n; left > 0 && left < 16 {
				n -= 16
			}
			names := n - len("\tlet  =  + ;\n")
			cut := func(k int) string { return long[:(names+k)/3] }
			body = append(body, let(cut(0), op("+", v(cut(1)), v(cut(2)))))
			share -= n
		}
		p = append(p, main(lit(1), body...)...)
	}
	return p
}

func TestHowLongATextMayBe(t *testing.T) {
	for bytes := 19900; bytes <= 20100; bytes++ {
		s, e := tree.Print(sized(t, bytes))
		if bytes <= 20000 && (e != nil || len(s) != bytes || !strings.HasSuffix(s, ";\n}\n")) {
			t.Errorf("P2.2: %d bytes: %d, %v", bytes, len(s), e)
		}
		if bytes > 20000 && (!errors.Is(e, api.TooMuch) || s != "") {
			t.Errorf("P2.2: %d bytes: %d, %v", bytes, len(s), e)
		}
	}
	// What is wrong goes ahead of what is too much.
	p := sized(t, 21000)
	p[len(p)-1].Value = lit(-1)
	if s, e := tree.Print(p); !errors.Is(e, api.BadForm) || s != "" {
		t.Errorf("P2.2: %d, %v", len(s), e)
	}
}

func TestAVeryGreatProgram(t *testing.T) {
	list := many(30, let("x", lit(1)))
	for range 3 {
		list = many(30, when(lit(1), list, nil))
	}
	p := main(lit(1), list...)
	if s, e := tree.Print(p); !errors.Is(e, api.TooMuch) || s != "" || !tree.Right(p) || tree.Deep(p) != 4 {
		t.Errorf("P2.2: %d, %v", len(s), e)
	}
}

func TestTheSameTwice(t *testing.T) {
	wantText(t, program(), programText)
	tree.Print(main(v("1")))
	tree.Print(sized(t, 21000))
	wantText(t, program(), programText)
}

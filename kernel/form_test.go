package kernel_test

import (
	"slices"
	"strings"
	"testing"

	"lienbook/api"
	"lienbook/kernel"
)

// unformed is programs that aren't formed: that aren't right, and of which names tells something.
func unformed(t *testing.T) [][]api.Fn {
	out := [][]api.Fn{nil, {}, {{}}}
	for _, s := range []string{
		"fn f() -> int { ret 1; }", "fn main() -> int { ret 1; } fn f() -> int { ret 1; }", "fn main(x: int) -> int { ret 1; }", "fn main['a]() -> int { ret 1; }", "fn main() -> box int { ret box 1; }", "fn main() -> int { ret x; }", "fn main() -> int { let x = 1; let x = 2; ret 1; }", "fn main() -> int { ret main(); }", "fn main() -> int { ret 1; } fn main() -> int { ret 1; }", "fn f(x: int) -> int { ret x; } fn main() -> int { ret f(); }", "fn f['a](x: box &'a int) -> int { ret 1; } fn main() -> int { ret 1; }", "fn f(x: &'a int) -> int { ret 1; } fn main() -> int { ret 1; }", "fn main() -> int { if 1 { let x = 1; } else { } ret x; }", "fn main() -> int { repeat 1 { x = 2; } let x = 1; ret x; }",
	} {
		out = append(out, read(t, s))
	}
	wrong := func(change func(*api.Fn)) {
		p := read(t, "fn f(x: int) -> int { let y = x; if y { x = 1; } else { } repeat x { } ret y; } fn main() -> int { ret 1; }")
		change(&p[0])
		out = append(out, p)
	}
	one := api.Expr{Kind: api.Lit, Num: 1}
	wrong(func(f *api.Fn) { f.Name = "let" })
	wrong(func(f *api.Fn) { f.Outs = []string{"a"} })
	wrong(func(f *api.Fn) { f.Gives = api.Type{} })
	wrong(func(f *api.Fn) { f.Value = api.Expr{} })
	wrong(func(f *api.Fn) { f.Value.Num = 1 })
	wrong(func(f *api.Fn) { f.Body[0].Kind = 0 })
	wrong(func(f *api.Fn) { f.Body[0].Kind = 5 })
	wrong(func(f *api.Fn) { f.Body[0].Then = f.Body[1:2] })
	wrong(func(f *api.Fn) { f.Body[2].Else = f.Body[1].Then })
	wrong(func(f *api.Fn) { f.Body[1].Name = "z" })
	wrong(func(f *api.Fn) { f.Body[1].Then[0].Place = one })
	wrong(func(f *api.Fn) { f.Body = slices.Repeat(f.Body[2:], 31) })
	wrong(func(f *api.Fn) { f.Body[2].Then = []api.Stmt{nested(api.Repeat, 3)} })
	wrong(func(f *api.Fn) { f.Body[1].Then = []api.Stmt{nested(api.If, 40)} })
	wrong(func(f *api.Fn) { f.Body[1].Else = []api.Stmt{nested(api.If, 100_000)} })
	return append(out, slices.Concat(slices.Repeat(read(t, "fn f() -> int { ret 1; }"), 30), read(t, "fn main() -> int { ret 1; }")))
}

// nested is so many statements of a kind in one another.
func nested(kind, n int) api.Stmt {
	var in []api.Stmt
	for range n {
		in = []api.Stmt{{Kind: kind, Expr: api.Expr{Kind: api.Lit}, Then: in}}
	}
	return in[0]
}

// wrongBinds is environments that aren't right, by their last bind.
func wrongBinds() [][]api.Bind {
	var out [][]api.Bind
	for _, typ := range []api.Ty{
		{}, {Kind: 5}, {Kind: -1}, {Kind: api.Int, Mut: true}, {Kind: api.Int, Gone: true}, {Kind: api.Box}, {Kind: api.Tuple}, ty("(i)"), ty("(" + strings.Repeat("i", 31) + ")"), ty("-&{}i"), ty("-(ii)"), ty("b&{}i"), ty("&{}&{}i"), ty("b(i-bi)"), ty("&!{}-bi"), ty("&{y,x}i"), ty("&{x,x}i"), ty("&{'a,x}i"), ty("&{x!,x}i"), ty("(i(i(i&{}-bi)))"),
	} {
		out = append(out, []api.Bind{{Name: "x", Ty: typ}}, append(known("x:i r:&{x}i :i"), api.Bind{Ty: typ}))
	}
	return out
}

func TestWhatIsNotFormed(t *testing.T) {
	for i, p := range unformed(t) {
		for at := -1; at <= len(p); at++ {
			for _, d := range [][][]api.Bind{nil, derivation(""), {{{Name: "x"}}}} {
				if err := kernel.Check(p, at, d); !isCode(err, api.BadForm) {
					t.Errorf("P7.1: %d, %d: %v", i, at, err)
				}
			}
		}
		for n := range 4 {
			if err := kernel.All(p, make([][][]api.Bind, n)); !isCode(err, api.BadForm) {
				t.Errorf("P7.2: %d, %d: %v", i, n, err)
			}
		}
	}
}

func TestNoSuchFunction(t *testing.T) {
	p := read(t, heads+"fn main() -> int { ret 1; }")
	for _, at := range []int{-1, -5, len(p), len(p) + 1, 1 << 62, -1 << 63} {
		for _, d := range [][][]api.Bind{nil, derivation(""), {{{}}}} {
			if err := kernel.Check(p, at, d); !isCode(err, api.BadForm) {
				t.Errorf("P7.1: function %d: %v", at, err)
			}
		}
	}
	for at := range p {
		if err := kernel.Check(p, at, nil); err != nil {
			t.Errorf("P7.1: function %d: %v", at, err)
		}
	}
}

// TestEnvironmentsThatAreNotRight puts one among others, with all else right, or wrong.
func TestEnvironmentsThatAreNotRight(t *testing.T) {
	for _, s := range []string{"let x = 1; if x { } else { repeat x { } } ret x;", "ret 1;", "let x = 1; let y = x.0; ret 1;", "if box 1 { } else { } ret 1;"} {
		p := readMain(t, s)
		for _, e := range wrongBinds() {
			for i := range 4 {
				d := slices.Insert(derivation("x:i", "x:i", ""), i, e)
				if err := kernel.Check(p, len(p)-1, d); !isCode(err, api.BadForm) {
					t.Errorf("P7.1: %s by %q: %v", s, showAll(d), err)
				}
			}
		}
	}
	// Names of any kind, and none, are right; they just aren't those that are asked for.
	for _, name := range []string{"", "fn", "x y", "'x", strings.Repeat("x", 31)} {
		p := readMain(t, "let x = 1; if x { } else { } ret x;")
		err := kernel.Check(p, len(p)-1, [][]api.Bind{{{Name: name, Ty: ty("i")}}})
		if !isFault(err, 1, api.BadTree) {
			t.Errorf("P7.1: a bind %q: %v", name, err)
		}
	}
}

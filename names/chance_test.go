package names_test

import (
	"errors"
	"math/rand"
	"slices"
	"strconv"
	"testing"

	"lienbook/api"
	"lienbook/names"
	"lienbook/tree"
)

// grower makes right programs by chance, of few names. It mostly takes a name that may stand where it is, so that some of its programs are formed.
type grower struct {
	*rand.Rand
	ahead []api.Fn
	lives []string
	vars  []string
}

func (g *grower) seldom() bool { return g.Intn(60) == 0 }

func (g *grower) anyName() string { return string("abcdefghxyz"[g.Intn(11)]) }

// oneOf is mostly one of these names.
func (g *grower) oneOf(list []string) string {
	if len(list) == 0 || g.seldom() {
		return g.anyName()
	}
	return list[g.Intn(len(list))]
}

// noneOf is mostly none of these names, each of them being one of anyName's.
func (g *grower) noneOf(list []string) string {
	name := g.anyName()
	for len(list) < 11 && slices.Contains(list, name) && !g.seldom() {
		name = g.anyName()
	}
	return name
}

func (g *grower) typ(deep int, inside bool) api.Type {
	inside = inside && !g.seldom()
	kind := 1 + g.Intn(4)
	kid := func(inside bool) api.Type { return g.typ(deep-1, inside) }
	switch {
	case deep > 0 && kind == api.Box:
		return boxed(kid(true))
	case deep > 0 && kind == api.Tuple:
		return tuple(kid(inside), kid(inside))
	case deep > 0 && kind == api.Ref && !inside && len(g.lives) > 0:
		return ref(g.oneOf(g.lives), kid(true))
	}
	return integer
}

func (g *grower) place(deep int) api.Expr {
	switch kind := g.Intn(4); {
	case deep > 0 && kind == 0:
		return api.Expr{Kind: api.Part, Num: int64(g.Intn(3)), Kids: []api.Expr{g.place(deep - 1)}}
	case deep > 0 && kind == 1:
		return api.Expr{Kind: api.Deref, Kids: []api.Expr{g.place(deep - 1)}}
	}
	return api.Expr{Kind: api.Var, Name: g.oneOf(g.vars)}
}

func (g *grower) expr(deep int) api.Expr {
	x := api.Expr{Kind: 1 + g.Intn(9)}
	n := 2 // kids
	switch {
	case deep == 0 || x.Kind == api.Lit || len(g.vars) == 0 && !g.seldom():
		return api.Expr{Kind: api.Lit, Num: 1}
	case x.Kind <= api.Deref:
		return g.place(deep)
	case x.Kind == api.Lend:
		x.Kids = []api.Expr{g.place(deep - 1)}
		return x
	case x.Kind == api.New:
		n = 1
	case x.Kind == api.Oper:
		x.Name = "+"
	case x.Kind == api.Call:
		x.Name, n = g.anyName(), g.Intn(3)
		if len(g.ahead) > 0 && !g.seldom() {
			f := g.ahead[g.Intn(len(g.ahead))]
			x.Name, n = f.Name, len(f.Params)
		}
		if len(g.ahead) > 0 && g.seldom() {
			n++
		}
	}
	for range n {
		x.Kids = append(x.Kids, g.expr(deep-1))
	}
	return x
}

// block is statements, with names of their own.
func (g *grower) block(deep int) []api.Stmt {
	vars := g.vars
	defer func() { g.vars = vars }()
	return g.stmts(deep)
}

func (g *grower) stmts(deep int) []api.Stmt {
	var out []api.Stmt
	for range g.Intn(4) {
		s := api.Stmt{Kind: 1 + g.Intn(4), Expr: g.expr(2)}
		switch {
		case len(g.vars) == 0 && !g.seldom() || deep == 0 || s.Kind == api.Let:
			s.Kind, s.Name = api.Let, g.noneOf(g.vars)
			g.vars = append(slices.Clone(g.vars), s.Name)
		case s.Kind == api.Set:
			s.Place = g.place(2)
		case s.Kind == api.If:
			s.Then, s.Else = g.block(deep-1), g.block(deep-1)
		case s.Kind == api.Repeat:
			s.Then = g.block(deep - 1)
		}
		out = append(out, s)
	}
	return out
}

func (g *grower) fn(name string) api.Fn {
	f := api.Fn{Name: name}
	g.lives, g.vars = nil, nil
	if name != "main" || g.seldom() {
		for range g.Intn(3) {
			f.Lives = append(f.Lives, g.noneOf(f.Lives))
		}
		g.lives = f.Lives
		for range g.Intn(3) {
			g.vars = append(g.vars, g.noneOf(g.vars))
			f.Params = append(f.Params, api.Param{Name: g.vars[len(g.vars)-1], Type: g.typ(3, false)})
		}
	}
	f.Gives = integer
	if name != "main" || g.seldom() {
		f.Gives = g.typ(3, false)
	}
	if len(f.Lives) > 0 && g.Intn(2) == 0 {
		f.Outs = []string{g.oneOf(f.Lives), g.oneOf(f.Lives)}
	}
	f.Body = g.stmts(3)
	f.Value = g.expr(3)
	return f
}

func (g *grower) program() []api.Fn {
	g.ahead = nil
	for range g.Intn(4) {
		var taken []string
		for _, f := range g.ahead {
			taken = append(taken, f.Name)
		}
		g.ahead = append(g.ahead, g.fn(g.noneOf(taken)))
	}
	if !g.seldom() {
		g.ahead = append(g.ahead, g.fn("main"))
	}
	return g.ahead
}

// Whether a right program is formed, by another way: all that is asked of a function is put into a list, as the chapter's words go.

type asked struct {
	ok  bool
	why api.Code
}

func twice(list []string) bool {
	for i, x := range list {
		if slices.Contains(list[:i], x) {
			return true
		}
	}
	return false
}

func livesIn(t api.Type) []string {
	var out []string
	if t.Kind == api.Ref {
		out = append(out, t.Life)
	}
	for _, kid := range t.Kids {
		out = append(out, livesIn(kid)...)
	}
	return out
}

func askExpr(ahead []api.Fn, vars []string, x api.Expr) []asked {
	var out []asked
	for _, kid := range x.Kids {
		out = append(out, askExpr(ahead, vars, kid)...)
	}
	if x.Kind == api.Var {
		out = append(out, asked{slices.Contains(vars, x.Name), api.BadName})
	}
	if x.Kind == api.Call {
		out = append(out, asked{slices.ContainsFunc(ahead, func(f api.Fn) bool { return f.Name == x.Name && len(f.Params) == len(x.Kids) }), api.BadName})
	}
	return out
}

// askStmts also answers the names in scope behind the statements, up to their end.
func askStmts(ahead []api.Fn, vars []string, list []api.Stmt) ([]asked, []string) {
	var out []asked
	for _, s := range list {
		out = append(out, askExpr(ahead, vars, s.Expr)...)
		if s.Kind == api.Let {
			out = append(out, asked{!slices.Contains(vars, s.Name), api.BadName})
			vars = append(slices.Clone(vars), s.Name)
		}
		if s.Kind == api.Set {
			out = append(out, askExpr(ahead, vars, s.Place)...)
		}
		for _, block := range [][]api.Stmt{s.Then, s.Else} {
			in, _ := askStmts(ahead, vars, block)
			out = append(out, in...)
		}
	}
	return out, vars
}

func askFn(ahead []api.Fn, f api.Fn) []asked {
	var before, vars []string
	for _, g := range ahead {
		before = append(before, g.Name)
	}
	lives, whole := f.Outs, wholeByWords(f.Gives)
	lives = append(slices.Clone(lives), livesIn(f.Gives)...)
	for _, x := range f.Params {
		vars = append(vars, x.Name)
		lives = append(lives, livesIn(x.Type)...)
		whole = whole && wholeByWords(x.Type)
	}
	out := []asked{{!slices.Contains(before, f.Name) && !twice(f.Lives) && !twice(vars), api.BadName}}
	for _, life := range lives {
		out = append(out, asked{slices.Contains(f.Lives, life), api.BadName})
	}
	out = append(out, asked{whole, api.BadShape})
	body, vars := askStmts(ahead, vars, f.Body)
	return append(append(out, body...), askExpr(ahead, vars, f.Value)...)
}

// byWords is the first fault of a right program, if there is one.
func byWords(p []api.Fn) (at int, why api.Code, wrong bool) {
	for i, f := range p {
		for _, x := range askFn(p[:i], f) {
			if !x.ok {
				return i, x.why, true
			}
		}
	}
	n := len(p)
	switch {
	case n == 0 || p[n-1].Name != "main":
		return n, api.BadName, true
	case len(p[n-1].Lives)+len(p[n-1].Params) > 0 || p[n-1].Gives.Kind != api.Int:
		return n, api.BadShape, true
	}
	return 0, 0, false
}

func TestAnyProgram(t *testing.T) {
	g := &grower{Rand: rand.New(rand.NewSource(41))}
	seen := map[string]int{}
	for range 30000 {
		p := g.program()
		if !tree.Right(p) {
			t.Fatalf("%v isn't right", p)
		}
		at, why, wrong := byWords(p)
		if !wrong {
			seen["formed"]++
			wantFormed(t, p, p)
			continue
		}
		behind := "in"
		if at == len(p) {
			behind = "behind"
		}
		seen[why.Error()+" "+behind]++
		wantFault(t, p, p, at, why)
	}
	for _, what := range []string{"formed", "E4 in", "E5 in", "E4 behind", "E5 behind"} {
		if seen[what] < 200 {
			t.Errorf("%s: %d of the programs", what, seen[what])
		}
	}
}

// more is a program with a function more ahead of all.
func more(f api.Fn, p []api.Fn) []api.Fn { return append([]api.Fn{f}, p...) }

func TestAFunctionMoreAheadOfAll(t *testing.T) {
	g := &grower{Rand: rand.New(rand.NewSource(43))}
	stays, not := 0, 0
	for n := range 30000 {
		p := g.program()
		if names.Check(p) != nil {
			continue
		}
		g.ahead = nil
		f := g.fn("new" + strconv.Itoa(n))
		at, why, _ := byWords([]api.Fn{f})
		if at == 1 { // f is formed: what is wrong alone is that it is no main
			stays++
			wantFormed(t, "P4.3", more(f, p))
		} else {
			not++
			wantFault(t, "P4.3", more(f, p), 0, why)
		}
	}
	if stays < 2000 || not < 200 {
		t.Errorf("%d functions formed, %d not", stays, not)
	}
}

func TestFunctionsMoreUpToTheLimit(t *testing.T) {
	p := read(t, "fn f(x: int) -> int { let y = x; ret y; } fn main() -> int { let x = f(1); ret f(x); }")
	for n := range 40 {
		// One that has the names of p's variables, that none of p's functions has.
		name := []string{"x", "y"}[n%2] + strconv.Itoa(n)
		if n < 2 {
			name = []string{"x", "y"}[n]
		}
		p = more(read(t, "fn "+name+"['a](x: &'a int, y: int) -> &'a int { let f = y; ret x; }")[0], p)
		if len(p) <= api.MaxList {
			wantFormed(t, len(p), p)
		} else if e := names.Check(p); !errors.Is(e, api.BadForm) {
			t.Errorf("P4.2: %d functions: %v", len(p), e)
		}
	}
	q := fill(t, 5)
	for i, f := range q {
		g := endMainFn(t)
		g.Name = f.Name
		wantFault(t, "a name that one has", more(g, q), i+1, api.BadName)
	}
}

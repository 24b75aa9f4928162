package kernel_test

import (
	"cmp"
	"math/rand"
	"slices"
	"strconv"
	"strings"

	"lienbook/api"
	"lienbook/env"
	"lienbook/step"
)

// roll makes functions' texts, and derivations, by chance. It mostly makes what may go right.
type roll struct {
	*rand.Rand
	vars  []variable
	forks bool // may there be Ifs and Repeats?
}

// variable is one in scope, and what it was made to be.
type variable struct{ name, kind string }

func (r *roll) one(in int) bool { return r.Intn(in) == 0 }

func pick[T any](r *roll, list ...T) T { return list[r.Intn(len(list))] }

// kinds are a number, a box, references without and with mut, and a number and a box.
var kinds = []string{"int", "box", "ref", "mut", "pair"}

// of is a variable of a kind, or none.
func (r *roll) of(kind string) string {
	var some []string
	for _, v := range r.vars {
		if v.kind == kind {
			some = append(some, v.name)
		}
	}
	if len(some) == 0 {
		return ""
	}
	return pick(r, some...)
}

// ways is the expressions that come to a kind, if the variables that they speak of are there: each # is one of the kind behind it.
func ways(kind string) []string {
	return map[string][]string{
		"int":  {"#int", "*#box", "*#ref", "*#mut", "#pair.0", "*#pair.1", "#int + *#ref", "take(#box)", "1 + *#mut", "*#mut < #int"},
		"box":  {"#box", "box #int", "#pair.1", "box *#ref", "box take(#box)"},
		"ref":  {"#ref", "&#int", "&#int", "&*#ref", "&*#mut", "&*#box", "&#pair.0", "first(#ref, &#int)", "far(&#int, #ref)", "far(#ref, #ref)"},
		"mut":  {"#mut", "&mut #int", "&mut #int", "&mut *#mut", "&mut *#box", "&mut #pair.0", "same(#mut)"},
		"pair": {"#pair", "(#int, #box)", "(1, box 2)"},
	}[kind]
}

// expr is an expression, mostly of a kind; or nothing.
func (r *roll) expr(kind string) string {
	if r.one(80) {
		kind = pick(r, kinds...)
	}
	for range 5 {
		if s := r.filled(pick(r, ways(kind)...)); s != "" {
			return s
		}
	}
	return map[string]string{"int": "1", "box": "box 1", "pair": "(1, box 2)"}[kind]
}

// filled is such a way, with variables; or nothing.
func (r *roll) filled(way string) string {
	out, rest, more := strings.Cut(way, "#")
	for more {
		kind := rest
		if end := strings.IndexFunc(rest, func(c rune) bool { return c < 'a' || c > 'z' }); end >= 0 {
			kind = rest[:end]
		}
		name := r.of(kind)
		if name == "" {
			return ""
		}
		var between string
		between, rest, more = strings.Cut(rest[len(kind):], "#")
		out += name + between
	}
	return out
}

func (r *roll) let() string {
	kind := pick(r, kinds...)
	s := r.expr(kind)
	if s == "" {
		kind, s = "int", "1"
	}
	name := "v" + strconv.Itoa(len(r.vars))
	r.vars = append(slices.Clone(r.vars), variable{name, kind})
	return "let " + name + " = " + s + "; "
}

func (r *roll) set() string {
	kind := pick(r, kinds...)
	place := r.of(kind)
	if kind == "int" && r.one(2) {
		place = r.filled(pick(r, "*#box", "*#mut", "#pair.0", "*#pair.1", "*#ref"))
	}
	x := r.expr(kind)
	if place == "" || x == "" {
		return r.let()
	}
	return place + " = " + x + "; "
}

func (r *roll) stmts(deep, most int) string {
	var out strings.Builder
	for range r.Intn(most + 1) {
		switch kind := r.Intn(8); {
		case kind < 3:
			out.WriteString(r.let())
		case kind < 6 || deep == 0 || !r.forks:
			out.WriteString(r.set())
		case kind == 6:
			out.WriteString("if " + cmp.Or(r.expr("int"), "1") + " " + r.block(deep-1) + "else " + r.block(deep-1))
		default:
			out.WriteString("repeat " + cmp.Or(r.expr("int"), "1") + " " + r.block(deep-1))
		}
	}
	return out.String()
}

func (r *roll) block(deep int) string {
	vars := r.vars
	defer func() { r.vars = vars }()
	return "{ " + r.stmts(deep, 3) + "} "
}

// fn is a function of a few Params, or main.
func (r *roll) fn(forks bool) string {
	r.forks, r.vars = forks, nil
	head, kind := "fn main() -> int", "int"
	if r.one(2) {
		kind = pick(r, kinds...)
		gives := map[string]string{"int": "int", "box": "box int", "ref": "&'a int", "mut": "&'b mut int", "pair": "(int, box int)"}[kind]
		head = "fn f['a, 'b](p: &'a int, m: &'b mut int, b: box int, n: int) -> " + gives + pick(r, "", " where 'b: 'a")
		r.vars = []variable{{"p", "ref"}, {"m", "mut"}, {"b", "box"}, {"n", "int"}}
	}
	body := r.stmts(api.MaxLoops, 6)
	value := ""
	for value == "" {
		value = r.expr(kind)
	}
	out := head + " { " + body + "ret " + value + "; } "
	if !strings.HasPrefix(head, "fn main") {
		out += "fn main() -> int { ret 1; }"
	}
	return out
}

// finder makes the least derivation of what goes right, and some derivation of what doesn't.
type finder struct {
	ahead []api.Fn
	d     [][]api.Bind
}

func (w *finder) stmts(e []api.Bind, list []api.Stmt) []api.Bind {
	for _, s := range list {
		e = w.stmt(e, s)
	}
	return e
}

func (w *finder) stmt(e []api.Bind, s api.Stmt) []api.Bind {
	if s.Kind == api.Set {
		if out, err := step.Set(w.ahead, e, s.Place, s.Expr); err == nil {
			return out
		}
		return e
	}
	t, out, err := step.Eval(w.ahead, e, s.Expr)
	if err != nil {
		t, out = api.Ty{Kind: api.Int}, e
	}
	if s.Kind == api.Let {
		return slices.Concat(out, []api.Bind{{Name: s.Name, Ty: t}})
	}
	mine := len(w.d)
	w.d = append(w.d, nil)
	if s.Kind == api.If {
		w.d[mine] = join(w.inside(out, s.Then), w.inside(out, s.Else))
		return w.d[mine]
	}
	for {
		w.d = w.d[:mine+1]
		next := join(out, w.inside(out, s.Then))
		w.d[mine] = out
		if env.Less(next, out) {
			return out
		}
		out = next
	}
}

func (w *finder) inside(e []api.Bind, list []api.Stmt) []api.Bind {
	return w.stmts(e, list)[:len(e)]
}

func join(a, b []api.Bind) []api.Bind {
	if out, err := env.Join(a, b); err == nil {
		return out
	}
	return a
}

// find is the least derivation of a function, if it has one.
func find(p []api.Fn, at int) [][]api.Bind {
	w := &finder{ahead: p[:at]}
	w.stmts(step.Start(p[at]), p[at].Body)
	return w.d
}

// spoil is a derivation with something in it otherwise.
func (r *roll) spoil(d [][]api.Bind) [][]api.Bind {
	out := slices.Clone(d)
	if len(out) == 0 || r.one(12) {
		return slices.Insert(out, r.Intn(len(out)+1), pick(r, append(out, nil)...))
	}
	i := r.Intn(len(out))
	switch r.Intn(12) {
	case 0:
		return slices.Delete(out, i, i+1)
	case 1:
		j := r.Intn(len(out))
		out[i], out[j] = out[j], out[i]
	case 2:
		out[i] = out[i][:r.Intn(len(out[i])+1)]
	case 3:
		out[i] = slices.Concat(out[i], known("z:i"))
	case 4:
		out[i] = slices.Clone(out[i])
		if n := len(out[i]); n > 0 {
			out[i][r.Intn(n)].Name = pick(r, "v0", "v1", "z")
		}
	default:
		out[i] = r.change(out[i])
	}
	return out
}

// change is what is known, a bit more or less of it.
func (r *roll) change(e []api.Bind) []api.Bind {
	out := slices.Clone(e)
	for i := range out {
		t := &out[i].Ty
		switch {
		case t.Kind == api.Ref && r.one(2):
			t.Loans = r.loans(t.Loans)
			if t.Mut && r.one(6) {
				t.Gone = !t.Gone
			}
		case t.Kind == api.Box && r.one(3):
			t.Gone = !t.Gone
		case t.Kind == api.Tuple && r.one(3):
			t.Kids = slices.Clone(t.Kids)
			t.Kids[1].Gone = !t.Kids[1].Gone
		case r.one(100):
			*t = ty("bi")
		case r.one(200):
			t.Gone = true
		}
	}
	return out
}

// loans is loans, with one more or without one; they mostly rise.
func (r *roll) loans(list []api.Loan) []api.Loan {
	out := slices.Clone(list)
	if len(out) > 0 && r.one(2) {
		i := r.Intn(len(out))
		return slices.Delete(out, i, i+1)
	}
	name := "v" + strconv.Itoa(r.Intn(6))
	more := pick(r, api.Loan{Place: api.Place{Var: name}}, api.Loan{Place: api.Place{Var: name}, Mut: true}, api.Loan{Life: "a"}, api.Loan{Life: "b"}, api.Loan{Place: api.Place{Var: "n"}}, api.Loan{Place: api.Place{Var: "zz"}}, api.Loan{Life: "z"})
	out = append(out, more)
	if !r.one(50) {
		slices.SortFunc(out, env.Cmp)
		out = slices.CompactFunc(out, func(a, b api.Loan) bool { return env.Cmp(a, b) == 0 })
	}
	return out
}

// grown is a derivation, where each reference may have borrowed one thing more, that there is not.
func grown(d [][]api.Bind) [][]api.Bind {
	var out [][]api.Bind
	for _, e := range d {
		e = slices.Clone(e)
		for i := range e {
			if t := &e[i].Ty; t.Kind == api.Ref {
				t.Loans = append(slices.Clone(t.Loans), api.Loan{Life: "z"})
			}
		}
		out = append(out, e)
	}
	return out
}

package kernel_test

import (
	"slices"
	"strconv"
	"strings"
	"testing"

	"lienbook/api"
	"lienbook/parse"
)

// What is known, as a text: "x:i b:-bi t:(ii) r:&!{x!,t.1*,'a}i" is a number, a box of a number that is gone, a tuple of two numbers, and a reference that may be written through, with its loans.

func show(e []api.Bind) string {
	var out []string
	for _, b := range e {
		out = append(out, b.Name+":"+showType(b.Ty))
	}
	return strings.Join(out, " ")
}

func showType(t api.Ty) string {
	s := ""
	if t.Gone {
		s = "-"
	}
	s += map[int]string{api.Int: "i", api.Box: "b", api.Tuple: "(", api.Ref: "&"}[t.Kind]
	if t.Mut {
		s += "!"
	}
	if t.Kind == api.Ref || len(t.Loans) > 0 {
		s += "{" + showLoans(t.Loans) + "}"
	}
	for _, kid := range t.Kids {
		s += showType(kid)
	}
	if t.Kind == api.Tuple {
		s += ")"
	}
	return s
}

func showLoans(list []api.Loan) string {
	var out []string
	for _, l := range list {
		s := l.Place.Var
		if l.Life != "" {
			s = "'" + l.Life + s
		}
		for _, step := range l.Place.Steps {
			if step == -1 {
				s += "*"
			} else {
				s += "." + strconv.Itoa(step)
			}
		}
		if l.Mut {
			s += "!"
		}
		out = append(out, s)
	}
	return strings.Join(out, ",")
}

// reader reads such a text.
type reader struct {
	rest string
}

// known is what a text tells. Its lists have no spare room.
func known(s string) []api.Bind {
	var out []api.Bind
	for _, one := range strings.Fields(s) {
		name, typ, _ := strings.Cut(one, ":")
		out = append(out, api.Bind{Name: name, Ty: ty(typ)})
	}
	return slices.Clip(out)
}

func ty(s string) api.Ty {
	r := &reader{s}
	t := r.ty()
	if r.rest != "" || showType(t) != s {
		panic("no type: " + s)
	}
	return t
}

func (r *reader) passed(sign string) bool {
	rest, ok := strings.CutPrefix(r.rest, sign)
	r.rest = rest
	return ok
}

func (r *reader) word() string {
	n := len(r.rest) - len(strings.TrimLeft(r.rest, "abcdefghijklmnopqrstuvwxyzABCDEFGHIJKLMNOPQRSTUVWXYZ_0123456789"))
	out := r.rest[:n]
	r.rest = r.rest[n:]
	return out
}

func (r *reader) ty() api.Ty {
	t := api.Ty{Gone: r.passed("-")}
	switch {
	case r.passed("i"):
		t.Kind = api.Int
	case r.passed("b"):
		t.Kind, t.Kids = api.Box, []api.Ty{r.ty()}
	case r.passed("("):
		t.Kind = api.Tuple
		for !r.passed(")") {
			t.Kids = append(t.Kids, r.ty())
		}
	case r.passed("&"):
		t.Kind, t.Mut = api.Ref, r.passed("!")
		for r.passed("{"); !r.passed("}"); r.passed(",") {
			t.Loans = append(t.Loans, r.loan())
		}
		t.Kids = []api.Ty{r.ty()}
	default:
		panic("no type: " + r.rest)
	}
	t.Kids, t.Loans = slices.Clip(t.Kids), slices.Clip(t.Loans)
	return t
}

func (r *reader) loan() api.Loan {
	if r.passed("'") {
		return api.Loan{Life: r.word()}
	}
	l := api.Loan{Place: api.Place{Var: r.word()}}
	for {
		switch {
		case r.passed("*"):
			l.Place.Steps = append(l.Place.Steps, -1)
		case r.passed("."):
			n, _ := strconv.Atoi(r.word())
			l.Place.Steps = append(l.Place.Steps, n)
		default:
			l.Mut = r.passed("!")
			return l
		}
	}
}

// derivation is what texts tell, each one an environment. It has no spare room.
func derivation(texts ...string) [][]api.Bind {
	var out [][]api.Bind
	for _, s := range texts {
		out = append(out, known(s))
	}
	return slices.Clip(out)
}

func showAll(d [][]api.Bind) string {
	var out []string
	for _, e := range d {
		out = append(out, show(e))
	}
	return strings.Join(out, " | ")
}

// read is a text's program.
func read(t *testing.T, s string) []api.Fn {
	t.Helper()
	p, e := parse.Parse(s)
	if e != nil {
		t.Fatalf("%q: %v", s, e)
	}
	return p
}

// heads is functions to call, that have derivations without environments.
const heads = "fn take(b: box int) -> int { ret *b; } fn first['a, 'b](p: &'a int, q: &'b int) -> &'a int { ret p; } fn far['a, 'b](p: &'a int, q: &'b int) -> &'a int where 'b: 'a { ret q; } fn same['a](p: &'a mut int) -> &'a mut int { ret p; } "

// readMain is those, and a main of these statements and that Value.
func readMain(t *testing.T, s string) []api.Fn {
	t.Helper()
	return read(t, heads+"fn main() -> int { "+s+" }")
}

// readFn is those, a function, and a main.
func readFn(t *testing.T, s string) (p []api.Fn, at int) {
	t.Helper()
	p = read(t, heads+s+" fn main() -> int { ret 0; }")
	return p, len(p) - 2
}

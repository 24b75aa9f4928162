package step_test

import (
	"slices"
	"strconv"
	"strings"
	"testing"

	"lienbook/api"
	"lienbook/parse"
)

// What is known, as a text: "x:i b:-bi t:(ii) r:&!{x!,t.1*,'a}i" is a number, a box of a number that is gone, a tuple of two numbers, and a reference that may be written through, with its loans.

func show(e []api.Bind) string {
	var out []string
	for _, b := range e {
		out = append(out, b.Name+":"+showType(b.Ty))
	}
	return strings.Join(out, " ")
}

func showType(t api.Ty) string {
	s := ""
	if t.Gone {
		s = "-"
	}
	s += map[int]string{api.Int: "i", api.Box: "b", api.Tuple: "(", api.Ref: "&"}[t.Kind]
	if t.Mut {
		s += "!"
	}
	if t.Kind == api.Ref || len(t.Loans) > 0 {
		s += "{" + showLoans(t.Loans) + "}"
	}
	for _, kid := range t.Kids {
		s += showType(kid)
	}
	if t.Kind == api.Tuple {
		s += ")"
	}
	return s
}

func showLoans(list []api.Loan) string {
	var out []string
	for _, l := range list {
		s := l.Place.Var
		if l.Life != "" {
			s = "'" + l.Life + s
		}
		for _, step := range l.Place.Steps {
			if step == -1 {
				s += "*"
			} else {
				s += "." + strconv.Itoa(step)
			}
		}
		if l.Mut {
			s += "!"
		}
		out = append(out, s)
	}
	return strings.Join(out, ",")
}

// reader reads such a text.
type reader struct {
	rest string
}

// known is what a text tells. Its lists have no spare room.
func known(s string) []api.Bind {
	var out []api.Bind
	for _, one := range strings.Fields(s) {
		name, typ, _ := strings.Cut(one, ":")
		out = append(out, api.Bind{Name: name, Ty: ty(typ)})
	}
	return slices.Clip(out)
}

func ty(s string) api.Ty {
	r := &reader{s}
	t := r.ty()
	if r.rest != "" || showType(t) != s {
		panic("no type: " + s)
	}
	return t
}

func (r *reader) passed(sign string) bool {
	rest, ok := strings.CutPrefix(r.rest, sign)
	r.rest = rest
	return ok
}

func (r *reader) word() string {
	n := len(r.rest) - len(strings.TrimLeft(r.rest, "abcdefghijklmnopqrstuvwxyzABCDEFGHIJKLMNOPQRSTUVWXYZ_0123456789"))
	out := r.rest[:n]
	r.rest = r.rest[n:]
	return out
}

func (r *reader) ty() api.Ty {
	t := api.Ty{Gone: r.passed("-")}
	switch {
	case r.passed("i"):
		t.Kind = api.Int
	case r.passed("b"):
		t.Kind, t.Kids = api.Box, []api.Ty{r.ty()}
	case r.passed("("):
		t.Kind = api.Tuple
		for !r.passed(")") {
			t.Kids = append(t.Kids, r.ty())
		}
	case r.passed("&"):
		t.Kind, t.Mut = api.Ref, r.passed("!")
		for r.passed("{"); !r.passed("}"); r.passed(",") {
			t.Loans = append(t.Loans, r.loan())
		}
		t.Kids = []api.Ty{r.ty()}
	default:
		panic("no type: " + r.rest)
	}
	t.Kids, t.Loans = slices.Clip(t.Kids), slices.Clip(t.Loans)
	return t
}

func (r *reader) loan() api.Loan {
	if r.passed("'") {
		return api.Loan{Life: r.word()}
	}
	l := api.Loan{Place: api.Place{Var: r.word()}}
	for {
		switch {
		case r.passed("*"):
			l.Place.Steps = append(l.Place.Steps, -1)
		case r.passed("."):
			n, _ := strconv.Atoi(r.word())
			l.Place.Steps = append(l.Place.Steps, n)
		default:
			l.Mut = r.passed("!")
			return l
		}
	}
}

// read is a text's program.
func read(t *testing.T, s string) []api.Fn {
	t.Helper()
	p, e := parse.Parse(s)
	if e != nil {
		t.Fatalf("%q: %v", s, e)
	}
	return p
}

// readExpr and readSet are those of a text.
func readExpr(t *testing.T, s string) api.Expr {
	t.Helper()
	return read(t, "fn main() -> int { ret "+s+"; }")[0].Value
}

func readSet(t *testing.T, s string) (place, x api.Expr) {
	t.Helper()
	set := read(t, "fn main() -> int { "+s+"; ret 0; }")[0].Body[0]
	return set.Place, set.Expr
}

// readFns is functions of those heads, that give back 0.
func readFns(t *testing.T, heads ...string) []api.Fn {
	t.Helper()
	var s strings.Builder
	for _, head := range heads {
		s.WriteString("fn " + head + " { ret 0; } ")
	}
	return read(t, s.String())
}

// fns is functions to call.
func fns(t *testing.T) []api.Fn {
	return readFns(t,
		"none() -> int",
		"add['a](a: int, b: &'a int) -> int",
		"first['a, 'b](p: &'a int, q: &'b int) -> &'a int",
		"far['a, 'b](p: &'a int, q: &'b int) -> &'a int where 'b: 'a",
		"one['a](p: &'a int, q: &'a int) -> &'a int",
		"keep['a](p: &'a mut int, b: box int) -> (&'a mut int, box int)",
		"look['a](p: &'a mut int) -> &'a int",
		"wide['a](p: &'a int) -> &'a mut box (int, int)",
		"from['a]() -> &'a int",
		"swap['a, 'b](t: (&'a int, (int, &'b int))) -> (&'b int, &'a int)",
		"chain['a, 'b, 'c](p: &'a int, q: &'b int, r: &'c int) -> (&'a int, (&'b int, &'c int)) where 'c: 'b, 'b: 'a",
		"ring['a, 'b, 'c](p: &'a int, q: &'b int, r: &'c int) -> (&'a int, &'b int, &'c int) where 'a: 'b, 'b: 'a",
		"open(b: box int, t: (int, box int)) -> box int",
		"twin(a: int) -> int", "twin(a: int, b: int) -> (int, int)",
	)
}

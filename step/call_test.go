package step_test

import (
	"testing"

	"lienbook/api"
)

func TestCalls(t *testing.T) {
	p := fns(t)
	for _, x := range []struct{ e, x, want, behind string }{
		{"", "none()", "i", ""}, {"x:i", "add(x, &x)", "i", ""}, {"x:i y:i", "add(add(1, &x), &y) + none()", "i", ""}, {"", "twin(1)", "i", ""},
		{"b:bi t:(ibi)", "open(b, t)", "bi", "b:-bi t:(i-bi)"}, {"b:bi t:(ibi)", "open(open(box 1, t), (none(), b))", "bi", "b:-bi t:(i-bi)"},
		// Loans come from the lives that outlive.
		{"x:i y:i", "first(&x, &y)", "&{x}i", ""}, {"x:i y:i", "far(&x, &y)", "&{x,y}i", ""}, {"x:i y:i", "far(&y, &x)", "&{x,y}i", ""}, {"x:i y:i", "one(&y, &x)", "&{x,y}i", ""}, {"x:i", "one(&x, &x)", "&{x}i", ""}, {"x:i", "look(&mut x)", "&{x!}i", ""}, {"", "from()", "&{}i", ""}, {"x:i", "wide(&x)", "&!{x}b(ii)", ""},
		{"x:i b:bi", "keep(&mut x, b)", "(&!{x!}ibi)", "x:i b:-bi"}, {"r:&!{x!,y,'a}i", "keep(r, box 1)", "(&!{x!,y,'a}ibi)", "r:-&!{}i"}, {"r:&!{x!}i", "keep(&mut *r, box 1)", "(&!{r*!,x!}ibi)", ""},
		{"x:i y:i", "swap((&x, (1, &y)))", "(&{y}i&{x}i)", ""}, {"t:(&{a,c,'b}i(i&{b!,d,'a}i))", "swap(t)", "(&{b!,d,'a}i&{a,c,'b}i)", ""},
		{"x:i y:i z:i", "chain(&x, &y, &z)", "(&{x,y,z}i(&{y,z}i&{z}i))", ""}, {"x:i y:i z:i", "ring(&x, &y, &z)", "(&{x,y}i&{x,y}i&{z}i)", ""},
		{"r:&{a,c,'l}i s:&{b,c,c!,'k}i", "one(r, s)", "&{a,b,c,c!,'k,'l}i", ""}, {"r:&{x}i y:i", "first(&*r, &y)", "&{r*,x}i", ""},
		{"x:i y:i z:i", "far(first(&z, &y), one(&x, &z))", "&{x,z}i", ""}, {"x:i y:i", "first(far(&x, &y), from())", "&{x,y}i", ""},
		// What isn't given back is lent no more.
		{"x:i", "(add(1, &x), &mut x)", "(i&!{x!}i)", ""}, {"x:i y:i", "(first(&x, &y), &mut y)", "(&{x}i&!{y!}i)", ""},
	} {
		wantEval(t, p, x.e, x.x, x.want, x.behind)
	}
}

func TestCallsThatGoWrong(t *testing.T) {
	p := fns(t)
	for _, x := range []struct {
		e, x string
		why  api.Code
	}{
		// Ahead of the kids; the first of two of one name is meant.
		{"", "never()", api.BadName}, {"x:i", "x()", api.BadName}, {"", "main()", api.BadName}, {"", "Add(1, 2)", api.BadName}, {"", "none(1)", api.BadName}, {"", "add(1)", api.BadName}, {"x:i", "add(1, &x, 2)", api.BadName}, {"", "twin(1, 2)", api.BadName}, {"", "never(1 + (1, 2))", api.BadName}, {"", "none(1 + (1, 2))", api.BadName}, {"", "twin()", api.BadName}, {"b:-bi", "add(*b)", api.BadName},
		// Behind each kid, ahead of the next one.
		{"x:i", "add(1, 2)", api.BadShape}, {"x:i", "add(&x, &x)", api.BadShape}, {"x:i", "add(1, &mut x)", api.BadShape}, {"x:i", "look(&x)", api.BadShape}, {"b:bi", "add(1, &b)", api.BadShape}, {"", "open(1, y)", api.BadShape}, {"", "open(y, 1)", api.BadName}, {"", "open(box 1, (box 1, 1))", api.BadShape}, {"", "open(box 1, (1, box 1, 1))", api.BadShape}, {"", "open(box box 1, (1, box 1))", api.BadShape}, {"x:i", "swap((&x, (&x, 1)))", api.BadShape}, {"x:i", "keep(&mut x, box (1, 1))", api.BadShape}, {"b:-bi", "add(box 1, *b)", api.BadShape}, {"", "twin(box y)", api.BadName},
		{"b:bi", "open(b, (1, b))", api.Gone}, {"r:&!{x!}i b:-bi", "keep(r, b)", api.Gone}, {"r:&!{}i b:bi", "(keep(r, b), *r)", api.Gone},
		// Each waits while those behind it are made.
		{"x:i", "first(&mut x, &x)", api.BadShape}, {"x:i", "keep(&mut x, box x)", api.Lent}, {"x:i", "add(*x, &x)", api.BadShape}, {"x:i y:i", "one(first(&x, &y), look(&mut x))", api.Lent}, {"x:i y:i", "(look(&mut x), x)", api.Lent}, {"x:i y:i", "(far(&x, &y), &mut y)", api.Lent}, {"x:i", "chain(&x, look(&mut x), &x)", api.Lent},
		{"x:i", "keep(&mut x, open(box 1, (x, box 2)))", api.Lent},
	} {
		wantNoEval(t, p, x.e, x.x, x.why)
	}
	wantNoEval(t, nil, "", "none()", api.BadName)
}

// TestCallsHangOnHeadsAlone: what a function does is of no account, nor whether its names may be.
func TestCallsHangOnHeadsAlone(t *testing.T) {
	p := read(t, "fn f(x: int, x: int) -> box int { let y = z; *y = never(1) + box 1; ret q; } fn g['a, 'a](p: &'b mut int) -> (&'b int, &'c int) where 'd: 'c { ret f(1); }")
	wantEval(t, p, "x:i", "f(x, 2)", "bi", "")
	wantEval(t, p, "x:i", "g(&mut x)", "(&{x!}i&{}i)", "")
}

package step_test

import (
	"testing"

	"lienbook/api"
	"lienbook/env"
	"lienbook/step"
)

// wantSet asks for what is known behind a Set ("" for what was known).
func wantSet(t *testing.T, ahead []api.Fn, e, set, behind string) {
	t.Helper()
	if behind == "" {
		behind = e
	}
	place, x := readSet(t, set)
	out, err := step.Set(ahead, known(e), place, x)
	if err != nil || show(out) != behind || !env.Right(out) {
		t.Errorf("P6.2: %s in %q: %q, %v, want %q", set, e, show(out), err, behind)
	}
}

func wantNoSet(t *testing.T, ahead []api.Fn, e, set string, want error) {
	t.Helper()
	place, x := readSet(t, set)
	out, err := step.Set(ahead, known(e), place, x)
	wantWrong(t, set+" in "+e, api.Ty{}, out, err, want)
}

func TestSets(t *testing.T) {
	p := fns(t)
	for _, x := range []struct{ e, set, behind string }{
		{"x:i", "x = 1", ""}, {"x:i y:i", "x = x + y", ""}, {"t:(i(ii))", "t.1.0 = 2", ""}, {"t:(i(ii))", "t.1 = (t.0, 3)", ""}, {"b:bi", "*b = 2", ""}, {"b:b(ii)", "(*b).1 = (*b).0", ""}, {"b:bbi", "*b = box 2", ""}, {"x:i", "x = add(1, &x)", ""},
		// What is there then.
		{"b:-bi", "b = box 1", "b:bi"}, {"t:(-bi-bi)", "t.0 = box 1", "t:(bi-bi)"}, {"t:(-bi-bi)", "t = (box 1, box 2)", "t:(bibi)"}, {"b:-bi c:bi", "b = c", "b:bi c:-bi"}, {"b:bi", "b = b", ""}, {"b:bi t:(-bii)", "t.0 = b", "b:-bi t:(bii)"}, {"t:(bi(bii))", "t.1.0 = t.0", "t:(-bi(bii))"}, {"t:(bibi)", "t = (t.1, t.0)", ""},
		{"x:i y:i r:&{x}i", "r = &y", "x:i y:i r:&{y}i"}, {"x:i r:-&!{}i", "r = &mut x", "x:i r:&!{x!}i"}, {"r:&!{x!}i", "r = r", ""}, {"r:&!{x!}i q:-&!{}i", "q = r", "r:-&!{}i q:&!{x!}i"}, {"t:(&{x,'a}ii) y:i", "t.0 = &y", "t:(&{y}ii) y:i"}, {"t:(&{}ii)", "t.0 = &t.1", "t:(&{t.1}ii)"}, {"t:(ii) u:(&{}(ii)i)", "u = (&t, u.1)", "t:(ii) u:(&{t}(ii)i)"}, {"r:&{x}i s:&{y,'a}i", "r = s", "r:&{y,'a}i s:&{y,'a}i"}, {"r:&{}i x:i y:i", "r = far(&y, &x)", "r:&{x,y}i x:i y:i"}, {"r:&{x}i x:i", "r = &x", ""}, {"r:&{r*}i x:i", "x = *r", ""},
		// Through a reference nothing is known anew.
		{"r:&!{x!}i x:i", "*r = 1", ""}, {"r:&!{x!}i", "*r = *r + 1", ""}, {"t:(i&!{x!,'a}(ib(ii)))", "(*(*t.1).1).0 = t.0", ""}, {"r:&!{x!}bi b:bi", "*r = b", "r:&!{x!}bi b:-bi"}, {"r:&!{x!}(ibi)", "(*r).1 = box (*r).0", ""}, {"r:&!{x!}(ibi)", "*r = (1, box 2)", ""}, {"r:&!{}i s:&!{}i", "*r = *s", ""},
		// The last bind of a name; one without a name is none.
		{"b:-bi b:-bi", "b = box 1", "b:-bi b:bi"}, {"x:bi x:i :(ii)", "x = 2", ""}, {"b:-bbi b:-bi b:i c:-bi :-bi", "c = box 1", "b:-bbi b:-bi b:i c:bi :-bi"},
		// What is lent elsewhere, or is a life.
		{"t:(ii) r:&!{t.0!}i", "t.1 = 2", ""}, {"x:i r:&{'x,'y}i", "x = 2", ""}, {"b:b(ii) r:&{b*.0}i", "(*b).1 = 1", ""},
	} {
		wantSet(t, p, x.e, x.set, x.behind)
	}
}

func TestSetsThatGoWrong(t *testing.T) {
	p := fns(t)
	for _, x := range []struct {
		e, set string
		why    api.Code
	}{
		{"", "x = 1", api.BadName}, {"y:i :i", "x.0 = 1", api.BadName}, {"t:(ii)", "t.2 = 1", api.BadShape}, {"x:i", "*x = 1", api.BadShape}, {"b:-bi", "*b = 1", api.Gone}, {"r:-&!{}i", "*r = 1", api.Gone},
		{"x:i", "x = box 1", api.BadShape}, {"x:i", "x = (1, 2)", api.BadShape}, {"b:bi", "b = 1", api.BadShape}, {"b:bi", "b = box (1, 2)", api.BadShape}, {"t:(ii)", "t = (1, 2, 3)", api.BadShape}, {"t:(ibi)", "t = (box 1, 1)", api.BadShape}, {"x:i r:&{}i", "r = &mut x", api.BadShape}, {"x:i r:&!{}i", "r = &x", api.BadShape}, {"x:i r:&!{x!}i", "r = x", api.Lent}, {"x:i r:&!{x!}i", "r = 1", api.BadShape}, {"r:&!{}i", "*r = (1, 2)", api.BadShape},
		{"r:&{x}i", "*r = 1", api.Shared}, {"t:(i&{}(ii))", "(*t.1).0 = 1", api.Shared}, {"r:&{}bi", "**r = 1", api.Shared}, {"r:&{}bi", "*r = box 1", api.Shared},
		{"x:i r:&{x}i", "x = 1", api.Lent}, {"x:i r:&!{x!}i", "x = 1", api.Lent}, {"t:(ii) r:&{t.0}i", "t = (1, 2)", api.Lent}, {"t:(ii) r:&{t}(ii)", "t.1 = 1", api.Lent}, {"b:bi r:&{b*}i", "b = box 1", api.Lent}, {"b:-bi r:&{b*}i", "b = box 1", api.Lent}, {"b:bi r:&{b}bi", "*b = 1", api.Lent}, {"r:&!{x!}i s:&{r*,x!}i", "*r = 1", api.Lent}, {"r:&!{x!}i s:&!{r*!,x!}i x:i", "r = &mut *s", api.Lent}, {"x:i :(i(i&{x}i))", "x = 1", api.Lent}, {"r:&{r*}i x:i", "r = &x", api.Lent}, {"x:i r:&!{x!}i", "r = &mut x", api.Lent},
		// What is to be there waits, and may be what it is lent by.
		{"r:&!{x!}i", "r = &mut *r", api.Lent}, {"r:&{x}i", "r = &*r", api.Lent}, {"t:(&{}ii)", "t = (&t.1, 1)", api.Lent},
		// The Expr ahead of the Place, and that with its type ahead of what is asked of it.
		{"", "x = 1 + box 1", api.BadShape}, {"", "x = *y", api.BadName}, {"b:-bi", "x = *b", api.Gone}, {"b:-bi", "*b = y", api.BadName}, {"b:-bi", "*b = *b", api.Gone}, {"b:bi", "*b = (b, 1)", api.Gone}, {"b:-bi", "*b = box 1", api.Gone}, {"r:&{}i", "*r = box 1", api.BadShape}, {"r:&{}i s:&{r*}i", "*r = 1", api.Shared}, {"x:i r:&{x}i", "x = box 1", api.BadShape}, {"x:i r:&!{x!}i", "x = *r", api.Lent}, {"x:i b:bi", "x.0 = b + 1", api.BadShape}, {"b:bi t:(bii)", "*b = *t.0 + never()", api.BadName}, {"b:bi", "*b = 1 + (b, 1)", api.BadShape},
	} {
		wantNoSet(t, p, x.e, x.set, x.why)
	}
}

package step_test

import (
	"errors"
	"strings"
	"testing"

	"lienbook/api"
	"lienbook/env"
	"lienbook/step"
)

// wantEval asks for what an expression comes to, and what is known behind it ("" for what was known).
func wantEval(t *testing.T, ahead []api.Fn, e, x, want, behind string) {
	t.Helper()
	if behind == "" {
		behind = e
	}
	typ, out, err := step.Eval(ahead, known(e), readExpr(t, x))
	if err != nil || showType(typ) != want || show(out) != behind {
		t.Errorf("P6.2: %s in %q: %s, %q, %v, want %s, %q", x, e, showType(typ), show(out), err, want, behind)
	}
	if !env.Right(out) || !env.Right([]api.Bind{{Ty: typ}}) {
		t.Errorf("P6.2: %s in %q: %s, %q aren't right", x, e, showType(typ), show(out))
	}
}

func wantWrong(t *testing.T, what any, typ api.Ty, out []api.Bind, err, want error) {
	t.Helper()
	if !errors.Is(err, want) || showType(typ) != "" || len(out) != 0 {
		t.Errorf("P6.2: %v: %s, %s, %v, want %v", what, showType(typ), show(out), err, want)
	}
}

// wantNoEval asks for what goes wrong.
func wantNoEval(t *testing.T, ahead []api.Fn, e, x string, want error) {
	t.Helper()
	typ, out, err := step.Eval(ahead, known(e), readExpr(t, x))
	wantWrong(t, x+" in "+e, typ, out, err, want)
}

func TestNumbersAndOperations(t *testing.T) {
	for _, x := range []struct{ e, x string }{
		{"", "0"}, {"x:&{y}i b:-bi", "999999999999999999"},
		{"", "1 + 2"}, {"x:i", "x - x"}, {"x:i", "x * 2 / x"}, {"x:i", "(x < 1) == 2"}, {"b:bi", "*b + *b"}, {"r:&!{x!}i x:i", "*r + *r"}, {"t:(-bi(ii))", "t.1.0 + t.1.1"}, {"x:i r:&{x}i", "x + *r"}, {"x:i", "1 + (x + (2 + (x + 3)))"},
	} {
		wantEval(t, nil, x.e, x.x, "i", "")
	}
	// Behind each kid, ahead of the next one.
	for _, x := range []string{"box 1 + 1", "1 + box 1", "(1, 1) < 1", "1 < &x", "&x == &x", "b + y", "box 1 + y", "1 + (box 1 * y)", "(&mut x, 1) + x", "x + (1 - (1, 1))"} {
		wantNoEval(t, nil, "x:i b:bi", x, api.BadShape)
	}
	for _, x := range []string{"y + box 1", "1 + y", "y == 1", "*b + (y + box 1)"} {
		wantNoEval(t, nil, "x:i b:bi", x, api.BadName)
	}
	wantNoEval(t, nil, "x:i b:bi g:-bi", "*g + y", api.Gone)
}

func TestPlacesThatAreRead(t *testing.T) {
	for _, x := range []struct{ e, x, want string }{
		{"x:i", "x", "i"}, {"t:(ii)", "t", "(ii)"}, {"t:(i(ii))", "t.1", "(ii)"}, {"t:(i(ii))", "t.1.0", "i"}, {"b:bi", "*b", "i"}, {"b:b(ii)", "*b", "(ii)"}, {"b:b(ibb(ii))", "(**(*b).1).1", "i"}, {"t:(-bii)", "t.1", "i"},
		{"r:&{x}i x:i", "r", "&{x}i"}, {"r:&{}i", "r", "&{}i"}, {"r:&{x,y.1*!,'a}bi", "r", "&{x,y.1*!,'a}bi"}, {"r:&{x}b(ii)", "(**r).1", "i"}, {"r:&!{x!}(bii)", "(*r).1", "i"}, {"t:(&{x}i(i&{y}i))", "t", "(&{x}i(i&{y}i))"}, {"t:(&{x}i(i&{y}i))", "t.1.1", "&{y}i"}, {"t:(i&!{x!}(ii))", "(*t.1).0", "i"},
		// The last bind of a name.
		{"x:i x:(ii)", "x", "(ii)"}, {"x:bi x:i y:bi", "x", "i"}, {"x:i x:-bi x:b(ii) xx:i X:i :bi", "(*x).0", "i"},
		// What is lent to be read, or lent elsewhere, may be read.
		{"x:i r:&{x}i", "x", "i"}, {"t:(ii) r:&{t.0}i", "t", "(ii)"}, {"t:(ii) r:&!{t.0!}i", "t.1", "i"}, {"b:bi r:&{b*}i", "*b", "i"}, {"x:i r:&!{x!}i s:&{r*,x!}i", "*r", "i"}, {"b:b(ii) r:&!{b*.0!}i", "(*b).1", "i"}, {"x:i r:&!{'x}i", "x", "i"}, {"x:i :&!{x.0,xx!,y!}i", "x", "i"},
	} {
		wantEval(t, nil, x.e, x.x, x.want, "")
	}
}

func TestPlacesThatMove(t *testing.T) {
	for _, x := range []struct{ e, x, want, behind string }{
		{"b:bi", "b", "bi", "b:-bi"}, {"b:b(ibi)", "b", "b(ibi)", "b:-b(ibi)"}, {"b:bi c:bi", "b", "bi", "b:-bi c:bi"},
		{"r:&!{x!}i x:i", "r", "&!{x!}i", "r:-&!{}i x:i"}, {"r:&!{x!,y.0*,'a}bi", "r", "&!{x!,y.0*,'a}bi", "r:-&!{}bi"},
		{"t:(i&!{x!}i(bi&{y}i))", "t", "(i&!{x!}i(bi&{y}i))", "t:(i-&!{}i(-bi&{y}i))"}, {"t:(i&!{x!}i(bi&{y}i))", "t.2", "(bi&{y}i)", "t:(i&!{x!}i(-bi&{y}i))"}, {"t:(i&!{x!}i(bi&{y}i))", "t.1", "&!{x!}i", "t:(i-&!{}i(bi&{y}i))"}, {"t:(-bi(bbi-bi))", "t.1.0", "bbi", "t:(-bi(-bbi-bi))"},
		// The last bind of a name.
		{"b:bi b:bbi :bi", "b", "bbi", "b:bi b:-bbi :bi"},
		// What is lent elsewhere.
		{"t:(bii) r:&{t.1}i", "t.0", "bi", "t:(-bii) r:&{t.1}i"}, {"t:(bibi) r:&!{t.1*!}i", "t.0", "bi", "t:(-bibi) r:&!{t.1*!}i"}, {"b:bi r:&{'b,'c}i", "b", "bi", "b:-bi r:&{'b,'c}i"}, {"b:bi bb:&!{c!}i", "b", "bi", "b:-bi bb:&!{c!}i"},
		{"t:(bii) r:&{t.1}i", "(t.1, t.0)", "(ibi)", "t:(-bii) r:&{t.1}i"},
	} {
		wantEval(t, nil, x.e, x.x, x.want, x.behind)
	}
}

func TestPlacesThatAreNone(t *testing.T) {
	for _, x := range []struct {
		e, x string
		why  api.Code
	}{
		{"", "x", api.BadName}, {"y:i X:i xx:i :i", "x", api.BadName}, {"", "x.0", api.BadName}, {"", "*x", api.BadName}, {"", "(**x).3.4", api.BadName}, {"", "&x", api.BadName}, {"", "&mut *x.1", api.BadName},
		{"x:i", "x.0", api.BadShape}, {"x:b(ii)", "x.0", api.BadShape}, {"x:&{}(ii)", "x.0", api.BadShape}, {"x:(ii)", "x.2", api.BadShape}, {"x:(ii)", "x.29", api.BadShape}, {"x:(i(ii))", "x.1.2", api.BadShape}, {"x:(i(ii))", "x.0.0", api.BadShape}, {"x:-b(ii)", "x.0", api.BadShape}, {"x:(iii)", "x.3", api.BadShape},
		{"x:i", "*x", api.BadShape}, {"x:(ii)", "*x", api.BadShape}, {"x:bi", "**x", api.BadShape}, {"x:&{}i", "**x", api.BadShape}, {"x:b(ii)", "*(*x).0", api.BadShape}, {"x:(bii)", "*x.1", api.BadShape}, {"x:(bii)", "**x", api.BadShape},
		{"x:-bi", "*x", api.Gone}, {"x:-bbi", "**x", api.Gone}, {"x:-&!{}i", "*x", api.Gone}, {"x:-b(ii)", "(*x).0", api.Gone}, {"x:(i-bi)", "*x.1", api.Gone},
		// What goes wrong first.
		{"x:-bi", "(*x).0", api.Gone}, {"x:-bi", "**x", api.Gone}, {"x:(i-bi)", "**x.0", api.BadShape}, {"x:(i-bi)", "(*x.2).0", api.BadShape}, {"x:bi x:-bi", "*x", api.Gone}, {"x:(bi-bi)", "&(*x.1).0", api.Gone},
	} {
		wantNoEval(t, nil, x.e, x.x, x.why)
		if x.x[0] != '&' {
			wantNoEval(t, nil, x.e, "&"+x.x, x.why)
			wantNoEval(t, nil, x.e, "&mut "+x.x, x.why)
			wantNoSet(t, nil, x.e, x.x+" = 1", x.why)
		}
	}
}

func TestPlacesThatMayNotBeRead(t *testing.T) {
	for _, x := range []struct {
		e, x string
		why  api.Code
	}{
		{"b:-bi", "b", api.Gone}, {"r:-&!{}i", "r", api.Gone}, {"t:(-bii)", "t", api.Gone}, {"t:(i(i-&!{}i))", "t.1", api.Gone}, {"r:-&!{x!}i", "r", api.Gone}, {"b:bi b:-bi", "b", api.Gone},
		{"b:bbi", "*b", api.Shared}, {"r:&{}bi", "*r", api.Shared}, {"r:&!{}bi", "*r", api.Shared}, {"r:&!{}(i(ibi))", "(*r).1", api.Shared}, {"r:&!{}(i(ibi))", "(*r).1.1", api.Shared}, {"b:b(bbii)", "*(*b).0", api.Shared}, {"t:(ibbi)", "*t.1", api.Shared},
		{"b:bi r:&{b}bi", "b", api.Lent}, {"b:bi r:&!{b!}bi", "b", api.Lent}, {"b:bi r:&{b*}i", "b", api.Lent}, {"r:&!{x!}i s:&{r*,x!}i", "r", api.Lent}, {"t:(bii) r:&{t}(bii)", "t.0", api.Lent}, {"t:(bi(ibi)) :&{t.1}(ibi)", "t", api.Lent}, {"t:(bi(ibi)) :&{t.1}(ibi)", "t.1.1", api.Lent}, {"r:&!{r*!}i", "r", api.Lent},
		{"x:i r:&!{x!}i", "x", api.Lent}, {"t:(ii) r:&!{t.0!}i", "t", api.Lent}, {"t:(ii) r:&!{t!}(ii)", "t.1", api.Lent}, {"x:i s:(i(i&{a,x!,'b}i))", "x", api.Lent}, {"b:b(ii) r:&{b!}i", "(*b).1", api.Lent}, {"b:b(ii) r:&{b*.1!}i", "*b", api.Lent}, {"r:&{x!}i s:&!{r*!,x!}i", "*r", api.Lent}, {"r:&{r!}i", "r", api.Lent}, {"t:(i&{}i) r:&{t.1*!}i", "t.1", api.Lent},
		// A leaf's first reason, and the first leaf's.
		{"b:-bi r:&{b}bi", "b", api.Gone}, {"b:bbi r:&{b*}bi", "*b", api.Shared}, {"t:(-bibi) r:&!{t.1!}bi", "t", api.Gone}, {"t:(bi-bi) r:&{t.0}bi", "t", api.Lent}, {"t:(i(i-bi)) r:&{t.0!}i", "t", api.Lent}, {"t:(i(-bii)) r:&!{t.1.1!}i", "t", api.Gone}, {"r:&!{}(ibi) s:&{r*.0!}i", "*r", api.Lent}, {"r:&!{}(bii) s:&{r*.1!}i", "*r", api.Shared}, {"r:&!{}(ibi) s:&{r*.1!}bi", "*r", api.Shared}, {"r:&!{}(i((iibi)bi)) s:&{r*.1.0.1!}i", "*r", api.Lent},
	} {
		wantNoEval(t, nil, x.e, x.x, x.why)
	}
}

func TestLending(t *testing.T) {
	for _, x := range []struct{ e, x, want string }{
		{"x:i", "&x", "&{x}i"}, {"x:i", "&mut x", "&!{x!}i"}, {"b:bi", "&b", "&{b}bi"}, {"b:bi", "&mut *b", "&!{b*!}i"}, {"t:(ib(ii))", "&mut (*t.1).0", "&!{t.1*.0!}i"}, {"t:(ib(ii))", "&t", "&{t}(ib(ii))"}, {"t:(-bii)", "&t.1", "&{t.1}i"}, {"x:bi x:i x:(ii)", "&x", "&{x}(ii)"},
		// Of what a reference points to: its loans as well, rising, no two alike.
		{"r:&{x}i", "&*r", "&{r*,x}i"}, {"r:&!{x!}i", "&*r", "&{r*,x!}i"}, {"r:&!{x!}i", "&mut *r", "&!{r*!,x!}i"}, {"r:&{}(ii)", "&(*r).1", "&{r*.1}i"}, {"z:&{a,b.0!,'a,'b}i", "&*z", "&{a,b.0!,z*,'a,'b}i"}, {"r:&{r*}i", "&*r", "&{r*}i"}, {"r:&{r*.0,r*.1}(ii)", "&*r", "&{r*,r*.0,r*.1}(ii)"}, {"r:&{r*.1,r.0}(ii)", "&(*r).0", "&{r*.0,r*.1,r.0}i"}, {"t:(i&!{x!,z}b(bii))", "&mut *(**t.1).0", "&!{t.1**.0*!,x!,z}i"}, {"b:b(ibi)", "&mut *(*b).1", "&!{b*.1*!}i"},
		// What is lent to be read, or lent elsewhere.
		{"x:i r:&{x}i", "&x", "&{x}i"}, {"t:(ii) r:&!{t.0!}i", "&mut t.1", "&!{t.1!}i"}, {"x:i r:&!{x!}i", "&*r", "&{r*,x!}i"}, {"x:i r:&!{'x}i", "&mut x", "&!{x!}i"}, {"r:&{x}i s:&{r*,x}i", "&*r", "&{r*,x}i"}, {"r:&!{x!}i s:&{r*,x!}i", "&*r", "&{r*,x!}i"},
	} {
		wantEval(t, nil, x.e, x.x, x.want, "")
	}
	for _, x := range []struct {
		e, x string
		why  api.Code
	}{
		{"r:&{}i", "&r", api.BadShape}, {"r:&!{}i", "&mut r", api.BadShape}, {"t:(i(i&{}i))", "&t", api.BadShape}, {"t:(i(i&{}i))", "&t.1", api.BadShape}, {"r:-&!{}i", "&r", api.BadShape},
		{"b:-bi", "&b", api.Gone}, {"b:-bi", "&mut b", api.Gone}, {"t:(ii(i-bbi))", "&t", api.Gone}, {"t:(ii(i-bbi))", "&mut t.2", api.Gone},
		{"r:&{x}i", "&mut *r", api.Shared}, {"r:&{x}(ibi)", "&mut *(*r).1", api.Shared}, {"t:(i&{}(ii))", "&mut (*t.1).0", api.Shared},
		{"x:i r:&!{x!}i", "&x", api.Lent}, {"x:i r:&{x}i", "&mut x", api.Lent}, {"t:(ii) r:&!{t.0!}i", "&t", api.Lent}, {"t:(ii) r:&{t.0}i", "&mut t", api.Lent}, {"t:(ii) r:&{t}(ii)", "&mut t.1", api.Lent}, {"b:bi r:&!{b*!}i", "&b", api.Lent}, {"r:&!{x!}i s:&!{r*!,x!}i", "&*r", api.Lent}, {"r:&!{x!}i s:&{r*,x!}i", "&mut *r", api.Lent}, {"r:&!{x!}i x:i s:&{r*,x!}i", "&x", api.Lent}, {"r:&!{r*!}i", "&*r", api.Lent},
		// The first reason.
		{"t:(-bi&{}i)", "&t", api.BadShape}, {"t:(i&{}i) r:&{t!}i", "&t", api.BadShape}, {"b:-bi r:&!{b!}bi", "&b", api.Gone}, {"r:&{}i s:&{r*!}i", "&mut *r", api.Shared},
	} {
		wantNoEval(t, nil, x.e, x.x, x.why)
	}
}

func TestBoxesAndRows(t *testing.T) {
	for _, x := range []struct{ e, x, want, behind string }{
		{"", "box 1", "bi", ""}, {"b:bi", "box b", "bbi", "b:-bi"}, {"b:bi", "box *b", "bi", ""}, {"t:(bii)", "box t", "b(bii)", "t:(-bii)"}, {"r:&!{}(ii)", "box *r", "b(ii)", ""}, {"b:bi", "box (b, (1, box 2))", "b(bi(ibi))", "b:-bi"},
		{"", "(1, 2)", "(ii)", ""}, {"b:bi x:i", "(b, x, &x)", "(bii&{x}i)", "b:-bi x:i"}, {"r:&!{x!}i x:i", "(1, (r, 2))", "(i(&!{x!}ii))", "r:-&!{}i x:i"},
		{"x:i", "(x, (&x, &x))", "(i(&{x}i&{x}i))", ""}, {"x:i", "(x, &mut x)", "(i&!{x!}i)", ""}, {"r:&!{x!}i", "(*r, r)", "(i&!{x!}i)", "r:-&!{}i"}, {"r:&{x}i", "(r, r, &*r)", "(&{x}i&{x}i&{r*,x}i)", ""}, {"t:(ii)", "(&mut t.0, &mut t.1, 1)", "(&!{t.0!}i&!{t.1!}ii)", ""}, {"t:(bibi)", "(t.1, t.0)", "(bibi)", "t:(-bi-bi)"},
	} {
		wantEval(t, nil, x.e, x.x, x.want, x.behind)
	}
	// Each kid is made in what the one ahead left, which waits meanwhile.
	for _, x := range []struct {
		e, x string
		why  api.Code
	}{
		{"b:bi", "(b, b)", api.Gone}, {"b:bi", "(b, *b)", api.Gone}, {"b:bi", "(1, (b, 1), &b)", api.Gone}, {"r:&!{x!}i", "(r, *r)", api.Gone}, {"b:bi", "box (b, b)", api.Gone}, {"b:bi", "(box b, box (1, *b))", api.Gone},
		{"x:i", "(&mut x, x)", api.Lent}, {"x:i", "(&x, &mut x)", api.Lent}, {"x:i", "(&mut x, &x)", api.Lent}, {"x:i", "((&mut x, 1), x)", api.Lent}, {"x:i", "((1, &mut x), (2, (3, x)))", api.Lent}, {"x:i", "(&mut x, 1 + (2 + x))", api.Lent}, {"x:i", "(&mut x, box (1, x))", api.Lent}, {"r:&!{x!}i", "(&*r, r)", api.Lent}, {"r:&!{x!}i x:i", "(r, x)", api.Lent}, {"t:(ii)", "(&mut t.0, t)", api.Lent}, {"b:bi", "(&*b, b)", api.Lent},
		{"x:i", "(x.0, y)", api.BadShape}, {"x:i", "(y, x.0)", api.BadName}, {"x:i b:-bi", "(*b, box &x)", api.Gone}, {"x:i b:-bi", "(box &x, *b)", api.BadShape},
		{"x:i", "box &x", api.BadShape}, {"x:i", "box (1, &mut x)", api.BadShape}, {"x:i", "box (1, (2, &x))", api.BadShape}, {"r:&{}i", "box r", api.BadShape}, {"t:(i&!{}i)", "box t", api.BadShape}, {"x:i", "box box &x", api.BadShape}, {"", "box y", api.BadName},
	} {
		wantNoEval(t, nil, x.e, x.x, x.why)
	}
}

// chain is a type of so many parts.
func chain(parts int) string { return strings.Repeat("b", parts-1) + "i" }

func TestHowManyParts(t *testing.T) {
	row := "(" + strings.Repeat("i", 30) + ")" // 31 parts
	wantEval(t, nil, "x:"+chain(63), "box x", chain(64), "x:-"+chain(63))
	wantEval(t, nil, "x:"+chain(62), "(1, x)", "(i"+chain(62)+")", "x:-"+chain(62))
	for _, x := range []struct{ e, x, want string }{
		{"r:&{}" + chain(61), "(r, 1)", "(&{}" + chain(61) + "i)"}, {"t:" + row, "(t, t)", "(" + row + row + ")"}, {"t:" + row, "(t, t, 1)", "(" + row + row + "i)"}, {"t:" + row, "box (t, t)", "b(" + row + row + ")"}, {"t:" + row, "(1, (2, (3, (4, t))), (5, box box (6, 7)))", "(i(i(i(i" + row + ")))(ibb(ii)))"},
		// What isn't made may have any number.
		{"r:&{}" + chain(1000), "r", "&{}" + chain(1000)}, {"r:&{}" + chain(1000), "&*r", "&{r*}" + chain(1000)},
	} {
		wantEval(t, nil, x.e, x.x, x.want, "")
	}
	for _, x := range []struct {
		e, x string
		why  api.Code
	}{
		{"x:" + chain(64), "box x", api.TooMuch}, {"x:" + chain(63), "(1, x)", api.TooMuch}, {"r:&{}" + chain(62), "(r, 1)", api.TooMuch}, {"t:" + row, "(t, t, 1, 2)", api.TooMuch}, {"t:" + row, "(t, (t, 1))", api.TooMuch}, {"t:" + row, "box (t, t, 1)", api.TooMuch}, {"x:" + chain(1000), "box x", api.TooMuch}, {"x:" + chain(1000), "(&x, 1)", api.TooMuch}, {"x:" + chain(63), "box box x", api.TooMuch},
		// Behind the kids, ahead of what comes next.
		{"x:" + chain(64), "(box x, y)", api.TooMuch}, {"x:" + chain(64), "(x, y)", api.BadName}, {"x:" + chain(64), "(x, x)", api.Gone}, {"r:&{}" + chain(64), "box r", api.BadShape}, {"x:" + chain(64), "box x + y", api.TooMuch},
	} {
		wantNoEval(t, nil, x.e, x.x, x.why)
	}
}

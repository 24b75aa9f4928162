package kernel_test

import (
	"errors"
	"testing"

	"lienbook/api"
	"lienbook/kernel"
)

// texts is the environments of a derivation.
type texts []string

func wantHolds(t *testing.T, s string, d texts) {
	t.Helper()
	p := readMain(t, s)
	if err := kernel.Check(p, len(p)-1, derivation(d...)); err != nil {
		t.Errorf("P7.1: %s by %q: %v", s, d, err)
	}
}

// isFault: is an error that one, at that place?
func isFault(err error, at int, want api.Code) bool {
	var fault *api.Fault
	return errors.As(err, &fault) && fault.At == at && errors.Is(fault, want)
}

// isCode: is an error that one, at no place?
func isCode(err error, want api.Code) bool {
	var fault *api.Fault
	return errors.Is(err, want) && !errors.As(err, &fault)
}

// fault is a main, a derivation, and what is wrong with it.
type fault struct {
	s    string
	d    texts
	at   int
	want api.Code
}

func wantFaults(t *testing.T, list []fault) {
	t.Helper()
	for _, c := range list {
		p := readMain(t, c.s)
		if err := kernel.Check(p, len(p)-1, derivation(c.d...)); !isFault(err, c.at, c.want) {
			t.Errorf("P7.1: %s by %q: %v, want %d: %v", c.s, c.d, err, c.at, c.want)
		}
	}
}

const (
	three  = "let x = 1; let y = 2; let r = &x; "
	either = three + "if x < y { r = &y; } else { let z = 3; } "
	loop   = three + "repeat y { r = &y; } "
)

func TestWhatHolds(t *testing.T) {
	for _, c := range []struct {
		s string
		d texts
	}{
		{"ret 1;", nil}, {"ret 1;", texts{}}, {"let x = 1; let r = &x; let b = box x; *b = *r; let s = first(r, &x); ret *s + take(b);", nil},
		{"if 1 { } else { } ret 1;", texts{""}}, {"repeat 1 { } ret 1;", texts{""}}, {"if 1 { let x = 1; } else { let x = box 1; let y = x; } ret 1;", texts{""}},
		{either + "ret *r;", texts{"x:i y:i r:&{x,y}i"}}, {loop + "ret *r;", texts{"x:i y:i r:&{x,y}i"}},
		// It may tell more than there is to be known.
		{either + "ret *r;", texts{"x:i y:i r:&{q.0*,x,x.1!,y,y.29,z,'a}i"}}, {loop + "ret *r;", texts{"x:i y:i r:&{q.0*,x,y,z,'a}i"}}, {"let b = box 1; if *b { } else { } ret 1;", texts{"b:-bi"}}, {"let b = box 1; repeat *b { } ret 1;", texts{"b:-bi"}}, {"let x = 1; let r = &mut x; if 1 { } else { } ret 1;", texts{"x:i r:-&!{x!,y}i"}},
		// What is gone behind one of both, and what isn't gone any more.
		{"let b = box 1; if 1 { let c = b; } else { } ret 1;", texts{"b:-bi"}}, {"let b = box 1; if 1 { } else { let c = b; } ret 1;", texts{"b:-bi"}}, {"let b = box 1; if 1 { let c = b; b = box 2; } else { *b = 3; } ret *b;", texts{"b:bi"}}, {"let b = box 1; repeat 2 { let c = b; b = box *c; } ret *b;", texts{"b:bi"}},
		// The Expr is ahead of all, and of all rounds, and what it alters is known in them.
		{"let b = box 1; if take(b) { b = box 2; } else { b = box 3; } ret *b;", texts{"b:bi"}}, {"let b = box 1; if take(b) { } else { } ret 1;", texts{"b:-bi"}}, {"let b = box 1; repeat take(b) { } ret 1;", texts{"b:-bi"}}, {"let b = box 1; repeat take(b) { b = box 2; } ret 1;", texts{"b:-bi"}},
		// What is lent no more.
		{either + "r = &x; y = 3; ret *r + y;", texts{"x:i y:i r:&{x,y}i"}}, {loop + "r = &x; y = 3; ret *r + y;", texts{"x:i y:i r:&{x,y}i"}}, {"let x = 1; let r = &mut x; repeat 2 { let s = &mut *r; *s = 1; } *r = 2; ret *r;", texts{"x:i r:&!{x!}i"}}, {"let x = 1; repeat x { let r = &mut x; *r = 2; } ret x;", texts{"x:i"}}, {"let x = 1; if x { let r = &mut x; *r = 2; } else { x = 3; } ret x;", texts{"x:i"}},
		// An If's, and a Repeat's, ahead of those in it, and those of its Then ahead of those of its Else.
		{"let x = 1; if x { let y = 2; if y { } else { let z = 3; repeat y { } } } else { repeat x { let z = 1; if z { } else { } } } repeat x { } ret x;", texts{"x:i", "x:i y:i", "x:i y:i z:i", "x:i", "x:i z:i", "x:i"}},
		{"let a = 1; repeat a { let b = 2; repeat b { let c = 3; repeat c { let d = 4; if d { } else { } } } } ret a;", texts{"a:i", "a:i b:i", "a:i b:i c:i", "a:i b:i c:i d:i"}},
		{"let x = 1; let y = 2; let r = &x; repeat 2 { if *r { r = &y; } else { } } ret *r;", texts{"x:i y:i r:&{x,y}i", "x:i y:i r:&{x,y}i"}},
		{"let x = 1; let y = 2; let r = &x; if x { if y { r = &y; } else { } } else { } ret *r;", texts{"x:i y:i r:&{x,y,z}i", "x:i y:i r:&{x,y}i"}},
	} {
		wantHolds(t, c.s, c.d)
	}
}

func TestLetsSetsAndTheValue(t *testing.T) {
	wantFaults(t, []fault{
		{"let x = 1; let y = x.0; ret x.0;", nil, 1, api.BadShape}, {"let b = box 1; let c = b; let d = b; ret 1;", nil, 2, api.Gone}, {"let x = 1; let r = &x; let s = &mut x; ret 1;", nil, 2, api.Lent}, {"let x = 1; let r = &x; let s = &mut *r; ret 1;", nil, 2, api.Shared}, {"let a = (1, 2); let b = (a, a, a); let c = (b, b, b); let d = (c, c, c); ret 1;", nil, 3, api.TooMuch},
		{"let x = 1; x = box 1; ret 1;", nil, 1, api.BadShape}, {"let b = box 1; let c = b; *b = 2; ret 1;", nil, 2, api.Gone}, {"let x = 1; let r = &x; x = 2; ret *r;", nil, 2, api.Lent}, {"let x = 1; let r = &x; *r = 2; ret 1;", nil, 2, api.Shared},
		{"ret box 1;", nil, 0, api.BadShape}, {"let x = 1; ret &x;", nil, 1, api.BadShape}, {"let b = box 1; let c = b; ret *b;", nil, 2, api.Gone}, {"let x = 1; let r = &mut x; ret x;", nil, 2, api.Lent}, {"let b = box 1; ret take(b) + take(b);", nil, 1, api.Gone}, {"let x = 1; ret x.0;", nil, 1, api.BadShape},
		// One is left: behind the Value.
		{"ret 1;", texts{""}, 0, api.BadTree}, {"let x = 1; x = 2; ret x;", texts{"x:i"}, 2, api.BadTree}, {"ret 1;", texts{"", "x:i", ""}, 0, api.BadTree}, {"ret 1 + box 1;", texts{""}, 0, api.BadShape}, {"ret box 1;", texts{""}, 0, api.BadShape}, {"let b = box 1; let c = b; ret *b;", texts{""}, 2, api.Gone}, {"let x = 1; x = box 1; ret 1;", texts{""}, 1, api.BadShape},
		{either + "ret *r;", texts{"x:i y:i r:&{x,y}i", "x:i y:i r:&{x,y}i"}, 6, api.BadTree}, {loop + "ret *r;", texts{"x:i y:i r:&{x,y}i", ""}, 5, api.BadTree}, {loop + "y = *r; ret *r;", texts{"x:i y:i r:&{x,y}i", ""}, 5, api.Lent},
		// How many statements there are, in one another as well.
		{"let x = 1; if x { let y = 2; if y { let z = 3; } else { x = 2; } } else { repeat x { let y = 3; } x = 4; } ret box x;", texts{"x:i", "x:i y:i", "x:i"}, 9, api.BadShape}, {"let x = 1; if x { let y = 2; if y { let z = 3; } else { x = 2; } } else { repeat x { let y = 3; } x = 4; } let y = x.0; ret x;", texts{"x:i", "x:i y:i", "x:i"}, 9, api.BadShape}, {"repeat 1 { repeat 2 { repeat 3 { let x = box 4; let y = x; let z = *x; } } } ret 1;", texts{"", "", ""}, 5, api.Gone}, {"if 1 { } else { if 2 { let x = 3; } else { let x = box 1; let y = x; let z = x; } } ret 1;", texts{"", ""}, 5, api.Gone},
	})
}

// TestIfs has what goes ahead in an If, one thing behind the other.
func TestIfs(t *testing.T) {
	wantFaults(t, []fault{
		// Its Expr; what that comes to; whether one is left; how many binds that has.
		{"let b = box 1; let c = b; if *b { let d = b; } else { } ret 1;", nil, 2, api.Gone}, {"if 1 + box 1 { let x = 1; x = box 1; } else { } ret 1;", texts{"x:i"}, 0, api.BadShape}, {"let x = 1; let r = &mut x; if x { } else { } ret 1;", texts{"x:i r:&!{x!}i"}, 2, api.Lent},
		{"if box 1 { let x = 1; x = box 1; } else { } ret 1;", nil, 0, api.BadShape}, {"if (1, 2) { } else { } ret 1;", texts{""}, 0, api.BadShape}, {"let x = 1; if &x { } else { } ret 1;", texts{"x:i"}, 1, api.BadShape}, {"let b = box 1; if b { } else { } ret 1;", texts{"b:-bi"}, 1, api.BadShape}, {"if box 1 { } else { } ret 1;", texts{"x:i"}, 0, api.BadShape},
		{"if 1 { let x = 1; x = box 1; } else { } ret 1;", nil, 0, api.BadTree}, {"if 1 { if 2 { } else { } } else { } ret 1;", texts{""}, 1, api.BadTree}, {"if 1 { let x = 1; } else { if 2 { } else { } } ret 1;", texts{""}, 2, api.BadTree}, {"if 1 { } else { } let x = 1; if x { } else { } ret 1;", texts{""}, 2, api.BadTree},
		{"let x = 1; if x { let y = x.0; } else { } ret 1;", texts{""}, 1, api.BadTree}, {"let x = 1; if x { let y = x.0; } else { } ret 1;", texts{"x:i y:i"}, 1, api.BadTree}, {"if 1 { let y = 1; y = box 1; } else { } ret 1;", texts{"y:i"}, 0, api.BadTree}, {"let x = 1; if x { let y = x.0; } else { } ret 1;", texts{"x:i"}, 2, api.BadShape},
		// Then; what it leaves; whether that is at most what is told.
		{"let x = 1; if x { let y = x.0; } else { } ret 1;", texts{"y:bi"}, 2, api.BadShape}, {three + "if x { let z = 1; r = &z; x = box 1; } else { } ret 1;", texts{"x:i y:i r:&{}i"}, 6, api.BadShape}, {three + "if x { let z = 1; x = 2; r = &z; } else { } ret 1;", texts{"x:i y:i r:&{}i"}, 5, api.Lent},
		{three + "if x { let z = 1; r = &z; } else { x = 2; } ret 1;", texts{"x:i y:i r:&{x,y,z}i"}, 3, api.Lent}, {three + "if x { let z = 1; r = &z; } else { x = 2; } ret 1;", texts{"x:i y:i r:&{x}i"}, 3, api.Lent}, {"if 1 { let z = 1; let s = &z; } else { let x = 1; x = box 1; } ret 1;", texts{""}, 4, api.BadShape},
		{three + "if x { r = &y; } else { x = 3; } ret 1;", texts{"x:i y:i r:&{x}i"}, 3, api.BadTree}, {three + "if x { r = &y; } else { x = 3; } ret 1;", texts{"x:i y:i r:&{x,y}i"}, 5, api.Lent}, {three + "if x { } else { r = &y; x = box 3; } ret 1;", texts{"x:i y:i r:&{y}i"}, 3, api.BadTree}, {"let x = 1; if x { } else { let y = x.0; } ret 1;", texts{"y:i"}, 1, api.BadTree}, {"let x = 1; if x { } else { let y = x.0; } ret 1;", texts{"x:bi"}, 1, api.BadTree}, {"let b = box 1; if 1 { let c = b; } else { let c = b; let d = b; } ret 1;", texts{"b:bi"}, 1, api.BadTree},
		// Likewise Else.
		{three + "if x { } else { let z = 1; r = &z; x = box 1; } ret 1;", texts{"x:i y:i r:&{x}i"}, 6, api.BadShape}, {three + "if x { } else { let z = 1; r = &z; } ret 1;", texts{"x:i y:i r:&{x,y,z}i"}, 3, api.Lent}, {three + "if x { } else { let z = 1; r = &z; } ret 1;", texts{"x:i y:i r:&{x}i"}, 3, api.Lent}, {three + "if x { } else { r = &y; } x = box 1; ret 1;", texts{"x:i y:i r:&{x}i"}, 3, api.BadTree}, {three + "if x { r = &y; } else { } x = box 1; ret 1;", texts{"x:i y:i r:&{y}i"}, 3, api.BadTree}, {"let b = box 1; if 1 { } else { let c = b; } ret *b;", texts{"b:bi"}, 1, api.BadTree},
		// Else begins with what Then does, not with what that leaves.
		{"let b = box 1; if 1 { b = box 2; } else { let c = b; let d = b; } ret 1;", texts{"b:-bi"}, 4, api.Gone}, {three + "if x { r = &y; } else { y = 3; x = 3; } ret 1;", texts{"x:i y:i r:&{x,y}i"}, 6, api.Lent}, {"let b = box 1; if take(b) { b = box 1; } else { let c = b; } ret 1;", texts{"b:bi"}, 3, api.Gone},
		// What is told is what is known behind it, also what is told beyond need.
		{either + "x = 3; ret *r;", texts{"x:i y:i r:&{x,y}i"}, 6, api.Lent}, {either + "y = 3; ret *r;", texts{"x:i y:i r:&{x,y}i"}, 6, api.Lent}, {"let x = 1; let y = 2; let r = &x; if x { } else { } y = 2; ret 1;", texts{"x:i y:i r:&{x,y}i"}, 4, api.Lent}, {"let b = box 1; if 1 { } else { } ret *b;", texts{"b:-bi"}, 2, api.Gone}, {"let b = box 1; if 1 { let c = b; } else { } let c = b; ret 1;", texts{"b:-bi"}, 3, api.Gone},
		// In one another: the first one's is the first.
		{three + "if x { if y { r = &y; } else { } } else { } ret *r;", texts{"x:i y:i r:&{x,y}i", "x:i y:i r:&{x,y,z}i"}, 3, api.BadTree}, {three + "if x { if y { r = &y; } else { } } else { } ret *r;", texts{"x:i y:i r:&{x,y}i", "x:i y:i r:&{x}i"}, 4, api.BadTree}, {"let x = 1; if x { let y = 1; if y { } else { } } else { } ret 1;", texts{"x:i y:i", "x:i"}, 1, api.BadTree}, {"let x = 1; if x { let y = 1; if y { } else { } } else { let z = 1; if z { } else { } } ret 1;", texts{"x:i", "x:i z:i", "x:i y:i"}, 3, api.BadTree},
	})
}

// TestRepeats has what goes ahead in a Repeat, one thing behind the other.
func TestRepeats(t *testing.T) {
	wantFaults(t, []fault{
		// Its Expr; what that comes to; whether one is left; whether what is known is at most that.
		{"let b = box 1; let c = b; repeat *b { let d = b; } ret 1;", nil, 2, api.Gone}, {"repeat 1 + box 1 { let x = 1; x = box 1; } ret 1;", texts{"x:i"}, 0, api.BadShape}, {"let x = 1; let r = &mut x; repeat x { } ret 1;", texts{"x:i r:&!{x!}i"}, 2, api.Lent},
		{"repeat box 1 { let x = 1; x = box 1; } ret 1;", nil, 0, api.BadShape}, {"repeat (1, 2) { } ret 1;", texts{""}, 0, api.BadShape}, {"let x = 1; repeat &x { } ret 1;", texts{"y:i"}, 1, api.BadShape}, {"let b = box 1; repeat b { } ret 1;", texts{"b:-bi"}, 1, api.BadShape},
		{"repeat 1 { let x = 1; x = box 1; } ret 1;", nil, 0, api.BadTree}, {"repeat 1 { repeat 2 { } } ret 1;", texts{""}, 1, api.BadTree}, {"repeat 1 { } let x = 1; repeat x { } ret 1;", texts{""}, 2, api.BadTree},
		{three + "repeat y { x = box 1; } ret 1;", texts{"x:i y:i r:&{y}i"}, 3, api.BadTree}, {three + "repeat y { x = box 1; } ret 1;", texts{"x:i y:i"}, 3, api.BadTree}, {three + "repeat y { x = box 1; } ret 1;", texts{"x:i y:i r:&{x}i z:i"}, 3, api.BadTree}, {"let x = 1; repeat x { x = box 1; } ret 1;", texts{"y:i"}, 1, api.BadTree}, {"let x = 1; repeat x { x = box 1; } ret 1;", texts{"x:bi"}, 1, api.BadTree}, {"let b = box 1; repeat take(b) { b = box 1; } ret 1;", texts{"b:bi"}, 1, api.BadTree}, {three + "repeat y { x = box 1; } ret 1;", texts{"x:i y:i r:&{x}i"}, 4, api.BadShape},
		// Then, from what is told on; what it leaves; whether that is at most what is told.
		{three + "repeat 2 { y = 3; r = &y; } ret *r;", texts{"x:i y:i r:&{x,y}i"}, 4, api.Lent}, {three + "repeat 2 { y = 3; r = &y; } ret *r;", texts{"x:i y:i r:&{x}i"}, 3, api.BadTree}, {"let b = box 1; repeat 2 { let c = b; } ret 1;", texts{"b:-bi"}, 2, api.Gone}, {"let b = box 1; repeat 2 { let c = b; } ret 1;", texts{"b:bi"}, 1, api.BadTree}, {three + "repeat 1 { let z = y; y = 3; } ret 1;", texts{"x:i y:i r:&{x,y}i"}, 5, api.Lent},
		{three + "repeat 2 { let z = 1; r = &z; x = box 1; } ret 1;", texts{"x:i y:i r:&{x}i"}, 6, api.BadShape}, {three + "repeat 2 { let z = 1; r = &z; } ret 1;", texts{"x:i y:i r:&{x,z}i"}, 3, api.Lent}, {three + "repeat 2 { let z = 1; r = &z; } ret 1;", texts{"x:i y:i r:&{x}i"}, 3, api.Lent}, {three + "repeat 2 { let z = 1; } ret 1;", texts{"x:i y:i r:&{x,z}i"}, 3, api.Lent}, {three + "repeat 2 { r = &y; } x = box 1; ret 1;", texts{"x:i y:i r:&{x}i"}, 3, api.BadTree},
		// What is told is what is known behind it, also what is told beyond need.
		{loop + "x = 3; ret *r;", texts{"x:i y:i r:&{x,y}i"}, 5, api.Lent}, {loop + "y = 3; ret *r;", texts{"x:i y:i r:&{x,y}i"}, 5, api.Lent}, {three + "repeat 2 { r = &x; } y = 3; ret *r;", texts{"x:i y:i r:&{x,y}i"}, 5, api.Lent}, {"let b = box 1; repeat 1 { } ret *b;", texts{"b:-bi"}, 2, api.Gone}, {"let b = box 1; repeat 1 { b = box 2; } ret *b;", texts{"b:-bi"}, 3, api.Gone},
		// In one another.
		{three + "repeat 2 { if *r { r = &y; } else { } } ret *r;", texts{"x:i y:i r:&{x}i", "x:i y:i r:&{x,y}i"}, 3, api.BadTree}, {three + "repeat 2 { if *r { r = &y; } else { } } ret *r;", texts{"x:i y:i r:&{x,y}i", "x:i y:i r:&{y}i"}, 4, api.BadTree}, {three + "repeat 2 { repeat 2 { r = &y; y = 3; } } ret *r;", texts{"x:i y:i r:&{x,y}i", "x:i y:i r:&{x,y}i"}, 6, api.Lent},
	})
}

// TestOtherFunctions has functions of lives and Params, and those ahead.
func TestOtherFunctions(t *testing.T) {
	for _, c := range []struct {
		s    string
		d    texts
		at   int
		want api.Code
	}{
		{"fn f['a](p: &'a int) -> &'a int { ret p; }", nil, 0, 0}, {"fn f['a](p: &'a int) -> &'a int { let x = 1; ret &x; }", nil, 1, api.Short}, {"fn f['a](p: &'a int, b: box int) -> (box int, &'a int) { ret (b, p); }", nil, 0, 0}, {"fn f(b: box int) -> box int { let c = b; ret b; }", nil, 1, api.Gone},
		{"fn f['a, 'b](p: &'a int, q: &'b int, n: int) -> &'a int { let r = p; if n { r = p; } else { } ret r; }", texts{"p:&{'a}i q:&{'b}i n:i r:&{'a}i"}, 0, 0},
		{"fn f['a, 'b](p: &'a int, q: &'b int, n: int) -> &'a int { let r = p; if n { r = q; } else { } ret r; }", texts{"p:&{'a}i q:&{'b}i n:i r:&{'a}i"}, 1, api.BadTree},
		{"fn f['a, 'b](p: &'a int, q: &'b int, n: int) -> &'a int { let r = p; if n { r = q; } else { } ret r; }", texts{"p:&{'a}i q:&{'b}i n:i r:&{'a,'b}i"}, 3, api.Short},
		{"fn f['a, 'b](p: &'a int, q: &'b int, n: int) -> &'a int where 'b: 'a { let r = p; if n { r = q; } else { } ret r; }", texts{"p:&{'a}i q:&{'b}i n:i r:&{'a,'b}i"}, 0, 0},
		{"fn f['a](p: &'a int, n: int) -> &'a int { repeat n { } ret p; }", texts{"p:&{'a}i n:i"}, 0, 0}, {"fn f['a](p: &'a int, n: int) -> &'a int { repeat n { } ret p; }", texts{"p:&{'a,'b}i n:i"}, 1, api.Short}, {"fn f['a](p: &'a int, n: int) -> &'a int { repeat n { } ret p; }", texts{"p:&{n,'a}i n:i"}, 1, api.Short}, {"fn f['a](p: &'a int, n: int) -> &'a int { repeat n { } ret p; }", texts{"p:&{n}i n:i"}, 0, api.BadTree},
		// What it gives back is asked ahead of what is left.
		{"fn f['a](p: &'a int) -> &'a int { let x = 1; ret &x; }", texts{""}, 1, api.Short}, {"fn f['a](p: &'a int) -> &'a int { ret p; }", texts{""}, 0, api.BadTree},
		// The functions ahead, by their heads alone.
		{"fn f['a, 'b](p: &'a int, q: &'b int) -> &'b int where 'a: 'b { ret far(q, p); }", nil, 0, 0}, {"fn f['a, 'b](p: &'a int, q: &'b int) -> &'b int { ret far(q, p); }", nil, 0, api.Short}, {"fn f['a, 'b](p: &'a int, q: &'b int) -> &'b int { ret first(q, p); }", nil, 0, 0},
	} {
		p := read(t, heads+c.s+" fn main() -> int { ret 0; }")
		err := kernel.Check(p, len(p)-2, derivation(c.d...))
		if c.want == 0 && err != nil || c.want != 0 && !isFault(err, c.at, c.want) {
			t.Errorf("P7.1: %s by %q: %v, want %d: %v", c.s, c.d, err, c.at, c.want)
		}
	}
	// One that doesn't hold is called as one that does.
	p := read(t, "fn f['a](p: &'a int) -> &'a int { let x = p.0; ret &x; } fn main() -> int { let x = 1; let r = f(&x); x = 2; ret *r; }")
	if err := kernel.Check(p, 1, nil); !isFault(err, 2, api.Lent) {
		t.Errorf("P7.1: of a function ahead that doesn't hold: %v", err)
	}
	if err := kernel.Check(p, 0, nil); !isFault(err, 0, api.BadShape) {
		t.Errorf("P7.1: a function that doesn't hold: %v", err)
	}
}

package kernel_test

import (
	"math/rand"
	"reflect"
	"slices"
	"strings"
	"testing"

	"lienbook/api"
	"lienbook/kernel"
)

// roomy is a list with spare room, that has something in it.
func roomy[T any](list []T, spare ...T) []T { return slices.Concat(list, spare)[:len(list)] }

// roomyDerivation is one, in lists that all have spare room.
func roomyDerivation(d [][]api.Bind) [][]api.Bind {
	out := roomy(d, known("x:i"), nil)
	for i, e := range out {
		out[i] = roomy(e, known("spare:i s:&{x,y}i t:(ii) u:bi")...)
		for j := range out[i] {
			out[i][j].Ty = roomyType(out[i][j].Ty)
		}
	}
	return out
}

func roomyType(t api.Ty) api.Ty {
	t.Kids = roomy(t.Kids, ty("bi"), ty("&{x}i"))
	for i := range t.Kids {
		t.Kids[i] = roomyType(t.Kids[i])
	}
	t.Loans = roomy(t.Loans, api.Loan{Life: "spare"}, api.Loan{})
	for i := range t.Loans {
		steps := &t.Loans[i].Place.Steps
		*steps = roomy(*steps, 7, 8, 9)
	}
	return t
}

func roomyExpr(x api.Expr) api.Expr {
	x.Kids = roomy(x.Kids, api.Expr{Kind: 77}, api.Expr{})
	for i := range x.Kids {
		x.Kids[i] = roomyExpr(x.Kids[i])
	}
	return x
}

func roomyStmts(list []api.Stmt) []api.Stmt {
	out := roomy(list, api.Stmt{Kind: 77})
	for i, s := range out {
		out[i].Place, out[i].Expr = roomyExpr(s.Place), roomyExpr(s.Expr)
		out[i].Then, out[i].Else = roomyStmts(s.Then), roomyStmts(s.Else)
	}
	return out
}

func roomyFns(p []api.Fn) []api.Fn {
	out := roomy(p, api.Fn{Name: "spare"})
	for i, f := range out {
		out[i].Lives, out[i].Outs, out[i].Params = roomy(f.Lives, "spare"), roomy(f.Outs, "spare", "room"), roomy(f.Params, api.Param{Name: "spare"})
		out[i].Body, out[i].Value = roomyStmts(f.Body), roomyExpr(f.Value)
	}
	return out
}

// whole is a thing with all that stands in its lists' spare room, in memory of its own.
func whole(v any) any { return wholeValue(reflect.ValueOf(v)).Interface() }

func wholeValue(v reflect.Value) reflect.Value {
	out := reflect.New(v.Type()).Elem()
	switch v.Kind() {
	case reflect.Slice:
		out.Set(reflect.MakeSlice(v.Type(), v.Cap(), v.Cap()))
		for i := range v.Cap() {
			out.Index(i).Set(wholeValue(v.Slice(0, v.Cap()).Index(i)))
		}
	case reflect.Struct:
		for i := range v.NumField() {
			out.Field(i).Set(wholeValue(v.Field(i)))
		}
	default:
		out.Set(v)
	}
	return out
}

// TestNothingIsChanged hands in lists with spare room: of a program and of derivations, those that hold and others.
func TestNothingIsChanged(t *testing.T) {
	r := &roll{Rand: rand.New(rand.NewSource(74))}
	holds := 0
	for range 300 {
		p, k, s := r.formed(t, true)
		least := find(p, k)
		p = roomyFns(p)
		all := roomy(make([][][]api.Bind, len(p)), derivation("x:i", ""))
		for _, d := range [][][]api.Bind{roomyDerivation(least), roomyDerivation(r.spoil(least))} {
			all[k] = d
			wantP, wantAll := whole(p), whole(all)
			first := kernel.Check(p, k, d)
			again := kernel.Check(p, k, d)
			kernel.All(p, all)
			if !reflect.DeepEqual(whole(p), wantP) || !reflect.DeepEqual(whole(all), wantAll) {
				t.Fatalf("rule 3: %s by %q: what was handed in was changed", s, showAll(d))
			}
			if !reflect.DeepEqual(first, again) {
				t.Errorf("rule 4: %s by %q: %v, again %v", s, showAll(d), first, again)
			}
			if first == nil && len(d) > 0 {
				holds++
			}
		}
	}
	if holds < 50 {
		t.Errorf("%d derivations hold", holds)
	}
}

// TestDeepAndLong has environments of types that are deeper than calls may be, and of many binds and loans, and many of them.
func TestDeepAndLong(t *testing.T) {
	const n = 200_000
	row, chest := ty("bi"), ty("i")
	for range n {
		row = api.Ty{Kind: api.Tuple, Kids: []api.Ty{row, ty("i")}}
		chest = api.Ty{Kind: api.Box, Kids: []api.Ty{chest}}
	}
	var names []string
	for _, c := range strings.Repeat("abcdefghijklmnopqrstuvwxyz", 2) {
		names = append(names, strings.Repeat(string(c), 1+len(names)))
	}
	slices.Sort(names)
	lent := ty("&{x}i")
	for _, name := range names {
		for step := range 1000 {
			lent.Loans = append(lent.Loans, api.Loan{Place: api.Place{Var: "z" + name, Steps: []int{step}}})
		}
	}
	p := readMain(t, "let x = 1; let r = &x; repeat x { if x { } else { } } ret *r;")
	told := []api.Bind{{Name: "x", Ty: ty("i")}, {Name: "r", Ty: lent}}
	if err := kernel.Check(p, 4, [][]api.Bind{told, told}); err != nil {
		t.Errorf("P7.1: many loans: %v", err)
	}
	for _, typ := range []api.Ty{row, chest, {Kind: api.Ref, Kids: []api.Ty{chest}}} {
		e := []api.Bind{{Name: "x", Ty: ty("i")}, {Name: "r", Ty: typ}}
		if err := kernel.Check(p, 4, [][]api.Bind{e, told}); !isFault(err, 2, api.BadTree) {
			t.Errorf("P7.1: a deep type: %v", err)
		}
		if err := kernel.Check(p, 4, [][]api.Bind{told, e}); !isFault(err, 3, api.BadTree) {
			t.Errorf("P7.1: a deep type: %v", err)
		}
		if err := kernel.Check(p, 4, [][]api.Bind{told, told, e}); !isFault(err, 4, api.BadTree) {
			t.Errorf("P7.1: a deep type that is left: %v", err)
		}
		e[1].Ty = api.Ty{Kind: api.Tuple, Kids: []api.Ty{typ, {}}}
		if err := kernel.Check(p, 4, [][]api.Bind{told, told, e}); !isCode(err, api.BadForm) {
			t.Errorf("P7.1: a deep type that isn't right: %v", err)
		}
	}
	long := slices.Repeat(told[:1], n)
	if err := kernel.Check(p, 4, slices.Insert(make([][]api.Bind, n), 0, told, told)); !isFault(err, 4, api.BadTree) {
		t.Errorf("P7.1: many environments: %v", err)
	}
	if err := kernel.Check(p, 4, [][]api.Bind{told, long}); !isFault(err, 3, api.BadTree) {
		t.Errorf("P7.1: many binds: %v", err)
	}
}

// TestAsGreatAsMayBe goes as deep as programs may be, and has as many statements in a row, and functions, as there may be.
func TestAsGreatAsMayBe(t *testing.T) {
	p := readMain(t, "ret 1;")
	main := &p[4]
	main.Body = slices.Repeat([]api.Stmt{nested(api.If, 39)}, api.MaxList)
	if err := kernel.Check(p, 4, make([][]api.Bind, 39*api.MaxList)); err != nil {
		t.Errorf("P7.1: 30 times 39 Ifs in one another: %v", err)
	}
	if err := kernel.Check(p, 4, make([][]api.Bind, 39*api.MaxList-1)); !isFault(err, 39*api.MaxList-1, api.BadTree) {
		t.Errorf("P7.1: one less: %v", err)
	}
	if err := kernel.Check(p, 4, make([][]api.Bind, 39*api.MaxList+1)); !isFault(err, 39*api.MaxList, api.BadTree) {
		t.Errorf("P7.1: one more: %v", err)
	}
	main.Body = slices.Repeat([]api.Stmt{nested(api.Repeat, api.MaxLoops)}, api.MaxList)
	if err := kernel.Check(p, 4, make([][]api.Bind, api.MaxLoops*api.MaxList)); err != nil {
		t.Errorf("P7.1: 30 times 3 Repeats in one another: %v", err)
	}
	var s strings.Builder
	for i := range api.MaxList - 1 {
		s.WriteString("fn " + strings.Repeat("f", i+1) + "() -> int { if 1 { } else { } ret 1; } ")
	}
	p = read(t, s.String()+"fn main() -> int { repeat ffff() { } ret f(); }")
	d := slices.Repeat([][][]api.Bind{{nil}}, api.MaxList)
	if err := kernel.All(p, d); err != nil {
		t.Errorf("P7.2: 30 functions: %v", err)
	}
	d[29] = nil
	if err := kernel.All(p, d); !isFault(err, 0, api.BadTree) {
		t.Errorf("P7.2: 30 functions: %v", err)
	}
}

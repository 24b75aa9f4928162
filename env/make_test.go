package env_test

import (
	"fmt"
	"math/rand"
	"slices"

	"lienbook/api"
)

// What the tests make environments of.

var (
	integer  = api.Ty{Kind: api.Int}
	oddKinds = []int{0, -1, 5, 1 << 62, -1 << 63}
)

func box(kid api.Ty) api.Ty { return api.Ty{Kind: api.Box, Kids: []api.Ty{kid}} }

func tuple(kids ...api.Ty) api.Ty { return api.Ty{Kind: api.Tuple, Kids: kids} }

func ref(kid api.Ty, loans ...api.Loan) api.Ty {
	return api.Ty{Kind: api.Ref, Loans: loans, Kids: []api.Ty{kid}}
}

func mutRef(kid api.Ty, loans ...api.Loan) api.Ty {
	return api.Ty{Kind: api.Ref, Mut: true, Loans: loans, Kids: []api.Ty{kid}}
}

func gone(t api.Ty) api.Ty {
	t.Gone = true
	return t
}

func place(name string, steps ...int) api.Place { return api.Place{Var: name, Steps: steps} }

func lent(name string, steps ...int) api.Loan { return api.Loan{Place: place(name, steps...)} }

func mutLent(name string, steps ...int) api.Loan {
	return api.Loan{Place: place(name, steps...), Mut: true}
}

func life(name string) api.Loan { return api.Loan{Life: name} }

// bind is an environment of one name.
func bind(name string, t api.Ty) []api.Bind { return []api.Bind{{Name: name, Ty: t}} }

// known is an environment of the names a, b, and so on.
func known(types ...api.Ty) []api.Bind {
	var out []api.Bind
	for i, t := range types {
		out = append(out, api.Bind{Name: string(rune('a' + i)), Ty: t})
	}
	return out
}

// times puts something around x n times.
func times[T any](n int, x T, around func(T) T) T {
	for range n {
		x = around(x)
	}
	return x
}

// many is n of one thing.
func many[T any](n int, x T) []T { return slices.Repeat([]T{x}, n) }

// brief is the beginning of a thing's text: some things have a great one.
func brief(x any) string {
	s := fmt.Sprint(x)
	return s[:min(len(s), 1000)]
}

// pool is some right loans, rising.
func pool() []api.Loan {
	return []api.Loan{lent(""), lent("x"), mutLent("x"), lent("x", -1), lent("x", -1, 0), mutLent("x", 0), lent("x", 0, 1), mutLent("y"), lent("y", 1), life("a"), life("b")}
}

// roll makes environments by chance.
type roll struct {
	*rand.Rand
}

func newRoll(seed int64) roll { return roll{rand.New(rand.NewSource(seed))} }

func (r roll) one(in int) bool { return r.Intn(in) == 0 }

// rising is some of pool, each of it one time in so many.
func (r roll) rising(in int) []api.Loan {
	return slices.DeleteFunc(pool(), func(api.Loan) bool { return !r.one(in) })
}

// shape is a type of which nothing is known.
func (r roll) shape(deep int, inside bool) api.Ty {
	kind := 1 + r.Intn(4)
	switch {
	case deep > 0 && kind == api.Box:
		return box(r.shape(deep-1, true))
	case deep > 0 && kind == api.Tuple:
		t := tuple()
		for range 2 + r.Intn(2) {
			t.Kids = append(t.Kids, r.shape(deep-1, inside))
		}
		return t
	case kind == api.Ref && !inside:
		return api.Ty{Kind: api.Ref, Mut: r.one(2), Kids: []api.Ty{r.shape(deep/2, true)}}
	}
	return integer
}

// learn is a right type of that shape, with things known of it, each one time in so many.
func (r roll) learn(t api.Ty, in int, inside bool) api.Ty {
	if !inside && (t.Kind == api.Box || t.Mut) {
		t.Gone = r.one(in)
	}
	if t.Kind == api.Ref {
		t.Loans = r.rising(in)
	}
	inside = inside || t.Kind == api.Box || t.Kind == api.Ref
	t.Kids = slices.Clone(t.Kids)
	for i, kid := range t.Kids {
		t.Kids[i] = r.learn(kid, in, inside)
	}
	return t
}

// learnAll is a right environment of those shapes.
func (r roll) learnAll(shapes []api.Bind, in int) []api.Bind {
	out := slices.Clone(shapes)
	for i := range out {
		out[i].Ty = r.learn(out[i].Ty, in, false)
	}
	return out
}

// shapes is an environment of few types of which nothing is known.
func (r roll) shapes() []api.Bind {
	var out []api.Bind
	for range r.Intn(4) {
		out = append(out, api.Bind{Name: []string{"", "x", "y"}[r.Intn(3)], Ty: r.shape(3, false)})
	}
	return out
}

// anyLoan is a loan, right or not.
func (r roll) anyLoan() api.Loan {
	l := api.Loan{Life: []string{"", "", "", "a", "b", "aa"}[r.Intn(6)], Place: place([]string{"", "x", "y", "xx"}[r.Intn(4)]), Mut: r.one(2)}
	for range r.Intn(4) {
		l.Place.Steps = append(l.Place.Steps, r.Intn(3)-1)
	}
	return l
}

// anyType is a type, right or not.
func (r roll) anyType(deep int) api.Ty {
	t := api.Ty{Kind: r.Intn(7) - 1, Mut: r.one(3), Gone: r.one(3)}
	for range r.Intn(3) {
		t.Loans = append(t.Loans, r.anyLoan())
	}
	if deep > 0 {
		for range r.Intn(4) {
			t.Kids = append(t.Kids, r.anyType(deep-1))
		}
	}
	return t
}

// somePart is a part of a type, that has memory of its own.
func (r roll) somePart(t *api.Ty) *api.Ty {
	for len(t.Kids) > 0 && !r.one(3) {
		t = &t.Kids[r.Intn(len(t.Kids))]
	}
	return t
}

// spoil changes one thing of a type, that has memory of its own.
func (r roll) spoil(t *api.Ty) {
	t = r.somePart(t)
	switch r.Intn(6) {
	case 0:
		t.Kind = r.Intn(7) - 1
	case 1:
		t.Mut = !t.Mut
	case 2:
		t.Gone = !t.Gone
	case 3:
		t.Loans = slices.Insert(slices.Clone(t.Loans), r.Intn(len(t.Loans)+1), r.anyLoan())
	case 4:
		t.Kids = append(t.Kids, r.learn(r.shape(1, false), 3, false))
	case 5:
		t.Kids = t.Kids[:len(t.Kids)-min(1, len(t.Kids))]
	}
}

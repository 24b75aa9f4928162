package env

import (
	"slices"

	"lienbook/api"
)

// fits: are the parts alike but for what is gone, for loans, and for what their kids are?
func (x pair) fits() bool {
	return x.a.Kind == x.b.Kind && x.a.Mut == x.b.Mut && len(x.a.Kids) == len(x.b.Kids)
}

// atMost: is the first part at most the second one, whatever their kids are?
func (x pair) atMost() bool {
	return (!x.a.Gone || x.b.Gone) && subset(x.a.Loans, x.b.Loans)
}

// subset: is each of some loans one of others, which rise?
func subset(some, others []api.Loan) bool {
	for _, l := range some {
		if _, found := slices.BinarySearchFunc(others, l, Cmp); !found {
			return false
		}
	}
	return true
}

// join makes the first part the join of both, with lists in memory of their own.
func (x pair) join() {
	x.a.Gone = x.a.Gone || x.b.Gone
	x.a.Loans = merge(x.a.Loans, x.b.Loans, Cmp)
	for i := range x.a.Loans {
		steps := &x.a.Loans[i].Place.Steps
		*steps = slices.Clone(*steps)
	}
	x.a.Kids = slices.Clone(x.a.Kids)
}

// merge: two rising lists as one, with what both have once.
func merge[T any](a, b []T, order func(T, T) int) []T {
	var out []T
	for len(a) > 0 && len(b) > 0 {
		c := order(a[0], b[0])
		if c <= 0 {
			out = append(out, a[0])
			a = a[1:]
		} else {
			out = append(out, b[0])
		}
		if c >= 0 {
			b = b[1:]
		}
	}
	return slices.Concat(out, a, b)
}

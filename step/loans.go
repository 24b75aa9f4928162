package step

import (
	"slices"

	"lienbook/api"
	"lienbook/env"
)

// rising: loans in their order, no two alike, in memory of their own.
func rising(list []api.Loan) []api.Loan {
	out := ownLoans(list)
	slices.SortFunc(out, env.Cmp)
	return slices.CompactFunc(out, func(a, b api.Loan) bool { return env.Cmp(a, b) == 0 })
}

// lenders: of each variable that is lent, which bind is the first that has a Loan of it. A variable is hit by writing just if it is lent, whatever of it.
func lenders(e []api.Bind) map[string]int {
	first := map[string]int{}
	for i, b := range slices.Backward(e) {
		for x := range parts(&b.Ty) {
			for _, l := range x.Loans {
				if l.Life == "" {
					first[l.Place.Var] = i
				}
			}
		}
	}
	return first
}

// longEnough: has each reference in what a function gives back just Loans that live as long as its life?
func longEnough(f api.Fn, t api.Ty) bool {
	for x := range refs(&f.Gives, &t) {
		for _, l := range x.ty.Loans {
			if l.Life == "" || !Outlives(f, l.Life, x.written.Life) {
				return false
			}
		}
	}
	return true
}

// borrowed keeps what a call's references have borrowed, by the lives of the Params.
type borrowed map[string][]api.Loan

// take takes in what is handed in for a Param.
func (b borrowed) take(p api.Param, t api.Ty) {
	for x := range refs(&p.Type, &t) {
		b[x.written.Life] = append(b[x.written.Life], x.ty.Loans...)
	}
}

// behind: all Loans of lives that outlive one, in a function.
func (b borrowed) behind(f api.Fn, life string) []api.Loan {
	var out []api.Loan
	for longer, loans := range b {
		if Outlives(f, longer, life) {
			out = append(out, loans...)
		}
	}
	return rising(out)
}

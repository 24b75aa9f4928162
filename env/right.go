package env

import "lienbook/api"

// right: is a part right, whatever its kids are?
func (x part) right() bool {
	t := x.ty
	if x.inside && (t.Kind == api.Ref || t.Gone) {
		return false
	}
	kids := len(t.Kids)
	switch t.Kind {
	case api.Int:
		return !t.Mut && !t.Gone && len(t.Loans) == 0 && kids == 0
	case api.Box:
		return !t.Mut && len(t.Loans) == 0 && kids == 1
	case api.Tuple:
		return !t.Mut && !t.Gone && len(t.Loans) == 0 && 2 <= kids && kids <= api.MaxList
	case api.Ref:
		return (t.Mut || !t.Gone) && rightLoans(t.Loans) && kids == 1
	}
	return false
}

// rightLoans: are loans right, and do they rise, no two alike?
func rightLoans(list []api.Loan) bool {
	for i, l := range list {
		if !rightLoan(l) || i > 0 && Cmp(list[i-1], l) >= 0 {
			return false
		}
	}
	return true
}

// rightLoan: is it a life with nothing else, or a place?
func rightLoan(l api.Loan) bool {
	return l.Life == "" || l.Place.Var == "" && len(l.Place.Steps) == 0 && !l.Mut
}

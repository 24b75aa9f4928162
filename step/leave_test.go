package step_test

import (
	"errors"
	"math"
	"slices"
	"strconv"
	"testing"

	"lienbook/api"
	"lienbook/step"
)

func wantLeave(t *testing.T, what any, e []api.Bind, n int, want string) {
	t.Helper()
	if out, err := step.Leave(e, n); err != nil || show(out) != want {
		t.Errorf("P6.3: %v: the first %d: %q, %v, want %q", what, n, show(out), err, want)
	}
}

func wantNoLeave(t *testing.T, what any, e []api.Bind, n int, want error) {
	t.Helper()
	if out, err := step.Leave(e, n); !errors.Is(err, want) || len(out) != 0 {
		t.Errorf("P6.3: %v: the first %d: %q, %v, want %v", what, n, show(out), err, want)
	}
}

func TestLeave(t *testing.T) {
	for _, x := range []struct {
		e    string
		n    int
		want string
	}{
		{"", 0, ""}, {"x:i", 0, ""}, {"x:i", 1, "x:i"}, {"x:i y:bi z:-bi", 2, "x:i y:bi"}, {"x:i r:&!{x!,'a}i b:-bi t:(ii)", 3, "x:i r:&!{x!,'a}i b:-bi"},
		// What is lent to what is behind, or to itself, may go; so may what has borrowed.
		{"x:i r:&{x}i", 0, ""}, {"x:i r:&!{x!}i s:&!{r*!,x!}i", 1, "x:i"}, {"r:&{}i x:i", 1, "r:&{}i"}, {"x:i r:&{x,y}i z:i", 2, "x:i r:&{x,y}i"}, {"r:&{r*}i", 0, ""}, {"r:&{}i s:&{s}i", 1, "r:&{}i"},
		// Lives, and other names.
		{"r:&{'x,'y}i x:i y:i", 1, "r:&{'x,'y}i"}, {"r:&!{X!,xx*,y.0}i x:i", 1, "r:&!{X!,xx*,y.0}i"}, {"r:&{'l}i :i", 1, "r:&{'l}i"},
		// All stay: nothing ends.
		{"r:&!{x!}i x:i", 2, "r:&!{x!}i x:i"}, {"r:&!{x!}i x:i y:i", 2, "r:&!{x!}i x:i"},
	} {
		wantLeave(t, x.e, known(x.e), x.n, x.want)
	}
	for _, x := range []struct {
		e string
		n int
	}{
		{"r:&{x}i x:i", 1}, {"r:&{x}i x:i", 0}, {"r:&!{x!}i x:i", 1}, {"r:&{x.0*}i x:(bii)", 1}, {"t:(i(i&{a,b.1!,c,'x}i)) b:(ii)", 1}, {"y:i r:&{x}i z:i x:i w:i", 2}, {"y:i r:&{x}i z:i x:i w:i", 3}, {"y:i r:&{x}i z:i x:i w:i", 0},
		// Though it is behind what stays, it is ahead of what it has borrowed.
		{"y:i r:&{x}i x:i", 1}, {"y:i r:&{x}i x:i", 0},
		// Names alike, and binds without one.
		{"x:i r:&{x}i x:i", 2}, {"x:i r:&{x}i x:i", 0}, {"r:&{.0!}i :(ii)", 1},
	} {
		wantNoLeave(t, x.e, known(x.e), x.n, api.Lent)
	}
	// A loan of the place without a name.
	nameless := []api.Bind{{Name: "r", Ty: api.Ty{Kind: api.Ref, Loans: []api.Loan{{}}, Kids: []api.Ty{{Kind: api.Int}}}}, {Ty: api.Ty{Kind: api.Int}}}
	wantNoLeave(t, "no name", nameless, 1, api.Lent)
	wantLeave(t, "no name", nameless[1:], 0, "")
}

func TestLeaveOfWhatIsNot(t *testing.T) {
	for _, n := range []int{-1, 3, 4, math.MinInt, math.MaxInt} {
		wantNoLeave(t, "x y", known("x:i y:i"), n, api.BadForm)
		wantNoLeave(t, "r x", known("r:&{x}i x:i"), n, api.BadForm)
	}
	wantNoLeave(t, "none", nil, 1, api.BadForm)
	for i, e := range wrongBinds() {
		for n := -1; n <= len(e)+1; n++ {
			wantNoLeave(t, i, e, n, api.BadForm)
		}
		wantNoLeave(t, i, slices.Concat(known("r:&{x}i x:i"), e), 1, api.BadForm)
	}
}

func TestLeaveOfVeryMany(t *testing.T) {
	const n = 100_000
	e := known("r:&{last,x5}i")
	for i := range n {
		e = append(e, api.Bind{Name: "y" + strconv.Itoa(i), Ty: ty("&{x" + strconv.Itoa(i) + "}i")}, api.Bind{Name: "z", Ty: ty("i")})
	}
	wantLeave(t, "many", e, 1, "r:&{last,x5}i")
	wantNoLeave(t, "many", append(e, api.Bind{Name: "last", Ty: ty("i")}), 1, api.Lent)
}

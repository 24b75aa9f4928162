package step_test

import (
	"errors"
	"math/rand"
	"testing"

	"lienbook/api"
	"lienbook/env"
	"lienbook/step"
)

// told is the code that an error tells, 0 of none.
func told(e error) api.Code {
	var code api.Code
	errors.As(e, &code)
	return code
}

func wantSeen(t *testing.T, seen map[string]int, least int, what ...string) {
	t.Helper()
	for _, w := range what {
		if seen[w] < least {
			t.Errorf("%s: %d times: %v", w, seen[w], seen)
		}
	}
}

func kindOf(x api.Expr) string {
	return []string{"", "Lit", "place", "place", "place", "Lend", "New", "Row", "Oper", "Call"}[x.Kind]
}

// counted is what is told of one thing, with its code, if it has one.
func counted(code api.Code, what string) string {
	if code != 0 {
		what += " " + code.Error()
	}
	return what
}

func TestAnyExpression(t *testing.T) {
	r := &roll{Rand: rand.New(rand.NewSource(61))}
	seen := map[string]int{}
	for n := 0; n < 20000 && !t.Failed(); n++ {
		r.newFns()
		r.newEnv(20)
		x := r.any()
		want := evalByWords(r.ahead, r.e, x)
		typ, out, err := step.Eval(r.ahead, r.e, x)
		seen[counted(want.code, kindOf(x))]++
		if x.Kind == api.Call && len(loansIn(want.ty)) > 0 {
			seen["Call with loans"]++
		}
		if told(err) != want.code || showType(typ) != showType(want.ty) || show(out) != show(want.e) {
			t.Errorf("P6.2: %v in %q by %v: %s, %q, %v, want %s, %q, %v", x, show(r.e), r.ahead, showType(typ), show(out), err, showType(want.ty), show(want.e), want.code)
		}
		if err == nil && (!env.Right(out) || !env.Right([]api.Bind{{Ty: typ}})) {
			t.Errorf("P6.2: %v in %q: %s, %q aren't right", x, show(r.e), showType(typ), show(out))
		}
	}
	wantSeen(t, seen, 400, "Lit", "place", "Lend", "New", "Row", "Oper", "Call")
	wantSeen(t, seen, 200, "Call with loans")
	wantSeen(t, seen, 50, "place E6", "place E7", "place E8", "Lend E5", "Lend E7", "Lend E8", "Row E4", "Row E5", "Row E6", "Row E7", "Row E8", "Call E4", "Call E5", "Call E6", "Call E7", "Call E8")
}

func TestAnySet(t *testing.T) {
	r := &roll{Rand: rand.New(rand.NewSource(62))}
	seen := map[string]int{}
	for n := 0; n < 20000 && !t.Failed(); n++ {
		r.newFns()
		r.newEnv(20)
		place, x := r.setting()
		want := setByWords(r.ahead, r.e, place, x)
		out, err := step.Set(r.ahead, r.e, place, x)
		seen[counted(want.code, "Set")]++
		if told(err) != want.code || show(out) != show(want.e) {
			t.Errorf("P6.2: %v = %v in %q by %v: %q, %v, want %q, %v", place, x, show(r.e), r.ahead, show(out), err, show(want.e), want.code)
		}
		if err == nil && !env.Right(out) {
			t.Errorf("P6.2: %v = %v in %q: %q isn't right", place, x, show(r.e), show(out))
		}
	}
	wantSeen(t, seen, 500, "Set", "Set E4", "Set E5", "Set E6", "Set E7", "Set E8")
}

func TestAnyLeave(t *testing.T) {
	r := &roll{Rand: rand.New(rand.NewSource(63))}
	seen := map[string]int{}
	for range 10000 {
		r.newEnv(5)
		n := r.Intn(len(r.e)+2) - r.Intn(2)
		want := leaveByWords(r.e, n)
		out, err := step.Leave(r.e, n)
		seen[counted(want.code, "Leave")]++
		if told(err) != want.code || show(out) != show(want.e) {
			t.Errorf("P6.3: %q, %d: %q, %v, want %q, %v", show(r.e), n, show(out), err, show(want.e), want.code)
		}
	}
	wantSeen(t, seen, 500, "Leave", "Leave E2", "Leave E7")
}

func TestAnyGives(t *testing.T) {
	r := &roll{Rand: rand.New(rand.NewSource(64))}
	seen := map[string]int{}
	pool := []api.Loan{{Life: "k"}, {Life: "l"}, {Life: "m"}}
	for range 20000 {
		f := r.fn("f")
		loans := pool
		if r.one(4) {
			loans = inOrder(append([]api.Loan{{Place: api.Place{Var: "x"}}}, pool...))
		}
		typ := r.learn(step.Shape(f.Gives), loans, 8, false)
		if r.one(10) {
			typ = r.learn(r.shape(3, false), loans, 8, false)
		}
		want := givesByWords(f, typ)
		seen[counted(want, "Gives")]++
		if err := step.Gives(f, typ); told(err) != want {
			t.Errorf("P6.4: %v gives %s: %v, want %v", f, showType(typ), err, want)
		}
	}
	wantSeen(t, seen, 500, "Gives", "Gives E5", "Gives E6", "Gives E9")
}

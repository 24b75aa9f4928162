package step_test

import (
	"math/rand"
	"testing"

	"lienbook/api"
	"lienbook/env"
	"lienbook/step"
)

// P6.5: what goes right in an environment goes right in one that is at most that, and what comes of it is at most that.

func alone(t api.Ty) []api.Bind { return []api.Bind{{Ty: t}} }

func wantFewer(t *testing.T, what any, less, more []api.Bind) {
	t.Helper()
	if !env.Less(less, more) {
		t.Errorf("P6.5: %v: %q isn't at most %q", what, show(less), show(more))
	}
}

func TestLessGoesRightAsWell(t *testing.T) {
	r := &roll{Rand: rand.New(rand.NewSource(65))}
	seen := map[string]int{}
	note := func(what string, less, more []api.Bind) {
		if seen[what]++; !env.Less(more, less) {
			seen["less behind "+what]++
		}
	}
	for n := 0; n < 15000 && !t.Failed(); n++ {
		r.newFns()
		r.newEnv(10)
		more, less := r.e, r.lesserAll(r.e, 1+r.Intn(3))
		wantFewer(t, "what was made", less, more)
		x := r.any()
		if typ, out, err := step.Eval(r.ahead, more, x); err == nil {
			typ2, out2, err2 := step.Eval(r.ahead, less, x)
			if err2 != nil {
				t.Errorf("P6.5: %v in %q: %v, but not in %q", x, show(less), err2, show(more))
			}
			all, all2 := append(alone(typ), out...), append(alone(typ2), out2...)
			wantFewer(t, x, all2, all)
			note("Eval", all2, all)
		}
		place, x := r.setting()
		if out, err := step.Set(r.ahead, more, place, x); err == nil {
			out2, err2 := step.Set(r.ahead, less, place, x)
			if err2 != nil {
				t.Errorf("P6.5: %v = %v in %q: %v, but not in %q", place, x, show(less), err2, show(more))
			}
			wantFewer(t, place, out2, out)
			note("Set", out2, out)
		}
		at := r.Intn(len(more) + 1)
		if out, err := step.Leave(more, at); err == nil {
			out2, err2 := step.Leave(less, at)
			if err2 != nil {
				t.Errorf("P6.5: the first %d of %q: %v, but not of %q", at, show(less), err2, show(more))
			}
			wantFewer(t, at, out2, out)
			note("Leave", out2, out)
		}
	}
	wantSeen(t, seen, 500, "Eval", "less behind Eval", "Set", "less behind Set", "Leave", "less behind Leave")
}

func TestLessMayBeGivenBackAsWell(t *testing.T) {
	r := &roll{Rand: rand.New(rand.NewSource(66))}
	seen := map[string]int{}
	for range 20000 {
		f := r.fn("f")
		typ := r.learn(step.Shape(f.Gives), []api.Loan{{Life: "k"}, {Life: "l"}, {Life: "m"}}, 10, false)
		less := r.lesser(typ, 2)
		if step.Gives(f, typ) != nil {
			continue
		}
		seen["Gives"]++
		if len(loansIn(less)) < len(loansIn(typ)) {
			seen["less"]++
		}
		if e := step.Gives(f, less); e != nil {
			t.Errorf("P6.5: %v gives %s, but not %s: %v", f, showType(typ), showType(less), e)
		}
	}
	wantSeen(t, seen, 500, "Gives", "less")
}

package kernel_test

import (
	"errors"
	"math/rand"
	"testing"

	"lienbook/api"
	"lienbook/kernel"
	"lienbook/names"
)

// formed is a program by chance that is formed, and the number of its function that was made.
func (r *roll) formed(t *testing.T, forks bool) (p []api.Fn, at int, s string) {
	t.Helper()
	for {
		s = r.fn(forks)
		p = read(t, heads+s)
		if names.Check(p) == nil {
			return p, 4, s
		}
	}
}

// agrees: is an error what is told by another way?
func agrees(err error, at int, want api.Code) bool {
	switch {
	case want == 0:
		return err == nil
	case at < 0:
		return isCode(err, want)
	}
	return isFault(err, at, want)
}

// kindAt is the kind of the statement of that number, "Value" behind all.
func kindAt(list []api.Stmt, n int) string {
	at := spot{}
	for _, s := range list {
		if at.n == n {
			return []string{"", "Let", "Set", "If", "Repeat"}[s.Kind]
		}
		next := at.behind(s)
		if n < next.n {
			return kindAt(append(append([]api.Stmt{}, s.Then...), s.Else...), n-at.n-1)
		}
		at = next
	}
	return "Value"
}

func TestAnyDerivation(t *testing.T) {
	r := &roll{Rand: rand.New(rand.NewSource(71))}
	seen := map[string]int{}
	for n := 0; n < 8000 && !t.Failed(); n++ {
		p, k, s := r.formed(t, true)
		least := find(p, k)
		for i, d := range [][][]api.Bind{least, r.spoil(least), r.spoil(r.spoil(least)), grown(least), nil} {
			at, want := checkByWords(p, k, d)
			err := kernel.Check(p, k, d)
			if !agrees(err, at, want) {
				t.Errorf("P7.1: %s by %q: %v, want %d: %v", s, showAll(d), err, at, want)
			}
			switch {
			case want == 0 && len(d) > 0:
				seen["holds"]++
				if i > 0 && showAll(d) != showAll(least) {
					seen["holds, and isn't the least"]++
				}
			case want != 0 && at >= 0:
				seen[kindAt(p[k].Body, at)+" "+want.Error()]++
			case want != 0:
				seen[want.Error()]++
			}
		}
	}
	for what, least := range map[string]int{"holds": 1500, "holds, and isn't the least": 300, "E2": 50, "If E10": 1000, "Repeat E10": 1000, "Value E10": 1000, "If E7": 100, "Repeat E7": 100, "Let E7": 500, "Set E7": 500, "Value E7": 200, "Let E6": 500, "Set E6": 200, "If E6": 100, "Repeat E6": 100, "Value E6": 100, "Value E9": 500, "Set E8": 100, "If E5": 30, "Repeat E5": 30, "Let E5": 10, "Set E5": 50, "Value E5": 30} {
		if seen[what] < least {
			t.Errorf("%s: %d times: %v", what, seen[what], seen)
		}
	}
}

func TestAnyProgram(t *testing.T) {
	r := &roll{Rand: rand.New(rand.NewSource(72))}
	seen := map[api.Code]int{}
	for n := 0; n < 3000 && !t.Failed(); n++ {
		p, k, s := r.formed(t, true)
		d := make([][][]api.Bind, len(p))
		d[k] = find(p, k)
		switch r.Intn(6) {
		case 0:
			i := r.Intn(len(d))
			d[i] = r.spoil(d[i])
		case 1:
			d[k] = r.spoil(d[k])
		case 2:
			d = d[:r.Intn(len(d))]
		case 3:
			d = append(d, nil)
		}
		at, want := allByWords(p, d)
		if err := kernel.All(p, d); !agrees(err, at, want) {
			t.Errorf("P7.2: %s by %d lists, %q: %v, want %d: %v", s, len(d), showAll(d[min(k, max(0, len(d)-1))]), err, at, want)
		}
		seen[want]++
	}
	if seen[0] < 200 || seen[api.BadTree] < 500 || seen[api.BadForm] < 1 || seen[api.Lent] < 100 {
		t.Errorf("%v", seen)
	}
}

// TestNoIfAndNoRepeat has functions without any, by derivations of environments that are right.
func TestNoIfAndNoRepeat(t *testing.T) {
	r := &roll{Rand: rand.New(rand.NewSource(73))}
	holds := 0
	for range 3000 {
		p, k, s := r.formed(t, false)
		alone := kernel.Check(p, k, nil)
		if alone == nil {
			holds++
		}
		d := [][]api.Bind{nil}
		for range r.Intn(3) {
			d = r.spoil(append(d, known("v0:i v1:&{v0}i")))
		}
		if err := kernel.Check(p, k, [][]api.Bind{}); (err == nil) != (alone == nil) {
			t.Errorf("P7.3: %s: %v, without a list %v", s, err, alone)
		}
		err := kernel.Check(p, k, append(d, nil))
		if err == nil || alone == nil && !isFault(err, len(p[k].Body), api.BadTree) && !isCode(err, api.BadForm) {
			t.Errorf("P7.3: %s by %q: %v", s, showAll(d), err)
		}
		if alone != nil && !errors.Is(err, api.BadForm) && err.Error() != alone.Error() {
			t.Errorf("P7.3: %s by %q: %v, by none %v", s, showAll(d), err, alone)
		}
	}
	if holds < 500 {
		t.Errorf("%d functions hold", holds)
	}
}

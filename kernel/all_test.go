package kernel_test

import (
	"slices"
	"testing"

	"lienbook/api"
	"lienbook/kernel"
)

// allOf is the derivations of functions, each of them environments' texts.
func allOf(lists ...texts) [][][]api.Bind {
	var out [][][]api.Bind
	for _, list := range lists {
		out = append(out, derivation(list...))
	}
	return out
}

func TestAll(t *testing.T) {
	p := read(t, "fn f['a](p: &'a int, n: int) -> &'a int { if n { } else { } ret p; } fn g(b: box int) -> int { ret *b; } fn h() -> int { "+loop+"ret *r; } fn main() -> int { let x = 1; ret g(box h()) + x; }")
	f, h := texts{"p:&{'a}i n:i"}, texts{"x:i y:i r:&{x,y}i"}
	for _, d := range [][][][]api.Bind{allOf(f, nil, h, nil), allOf(f, texts{}, h, texts{}), allOf(texts{"p:&{'a}i n:i"}, nil, texts{"x:i y:i r:&{x,y,z,'k}i"}, nil)} {
		if err := kernel.All(p, d); err != nil {
			t.Errorf("P7.2: %v", err)
		}
	}
	if err := kernel.All(read(t, "fn main() -> int { ret 1; }"), [][][]api.Bind{nil}); err != nil {
		t.Errorf("P7.2: main alone: %v", err)
	}
	bad := [][]api.Bind{{{Name: "x"}}}
	// The first error of Check, function by function.
	for i, c := range []struct {
		d    [][][]api.Bind
		at   int // -1: none
		want api.Code
	}{
		{allOf(nil, nil, h, nil), 0, api.BadTree}, {allOf(f, texts{""}, h, nil), 0, api.BadTree}, {allOf(f, nil, texts{"x:i y:i r:&{x}i"}, nil), 3, api.BadTree}, {allOf(f, nil, h, texts{""}), 1, api.BadTree}, {allOf(texts{"p:&{'a,'b}i n:i"}, nil, h, nil), 1, api.Short}, {allOf(texts{"p:&{'a}i n:i", ""}, nil, h, nil), 1, api.BadTree},
		{allOf(f, nil, nil, texts{""}), 3, api.BadTree}, {allOf(f, texts{""}, texts{"x:i y:i r:&{x}i"}, texts{""}), 0, api.BadTree}, {allOf(h, nil, f, nil), 0, api.BadTree}, {allOf(f, h, nil, nil), 0, api.BadTree},
		{slices.Insert(allOf(f, nil, h), 3, bad), -1, api.BadForm}, {slices.Insert(allOf(nil, h, nil), 0, bad), -1, api.BadForm}, {slices.Insert(allOf(f, nil, nil), 2, bad), -1, api.BadForm}, {slices.Insert(allOf(nil, nil, h), 3, bad), 0, api.BadTree}, {slices.Insert(allOf(f, nil, texts{""}), 3, bad), 3, api.BadTree},
		// As many lists as there are functions, ahead of what they have.
		{nil, -1, api.BadTree}, {allOf(f, nil, h), -1, api.BadTree}, {allOf(f, nil, h, nil, nil), -1, api.BadTree}, {allOf(f), -1, api.BadTree}, {allOf(nil, nil, nil), -1, api.BadTree}, {slices.Insert(allOf(f, nil), 0, bad), -1, api.BadTree}, {slices.Insert(allOf(f, nil, h, nil), 4, bad), -1, api.BadTree}, {make([][][]api.Bind, 100_000), -1, api.BadTree},
	} {
		err := kernel.All(p, c.d)
		if c.at < 0 && !isCode(err, c.want) || c.at >= 0 && !isFault(err, c.at, c.want) {
			t.Errorf("P7.2: %d: %v, want %d: %v", i, err, c.at, c.want)
		}
	}
}

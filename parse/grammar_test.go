package parse_test

import (
	"errors"
	"math/rand"
	"slices"
	"strconv"
	"strings"
	"testing"

	"lienbook/api"
	"lienbook/lex"
	"lienbook/parse"
)

// grammar is the chapter's, a line each; what ends in Row is one or more with commas between, name, life, number and part are tokens of many texts.
const grammar = `
Program =
Program = Program Fn
Fn = fn name Lives ( Params ) -> Type Outs { Stmts ret Expr ; }
Lives =
Lives = [ LifeRow ]
LifeRow = life
LifeRow = LifeRow , life
Params =
Params = ParamRow
ParamRow = Param
ParamRow = ParamRow , Param
Param = name : Type
Outs =
Outs = where OutRow
OutRow = life : life
OutRow = OutRow , life : life
Type = int
Type = box Type
Type = ( TypeRow , Type )
Type = & life Type
Type = & life mut Type
TypeRow = Type
TypeRow = TypeRow , Type
Stmts =
Stmts = Stmts Stmt
Stmt = let name = Expr ;
Stmt = Place = Expr ;
Stmt = if Expr Block else Block
Stmt = repeat Expr Block
Block = { Stmts }
Place = * Place
Place = Spot
Spot = name
Spot = ( Place )
Spot = Spot . part
Expr = Sum
Expr = Sum < Sum
Expr = Sum == Sum
Sum = Product
Sum = Sum + Product
Sum = Sum - Product
Product = One
Product = Product * One
Product = Product / One
One = number
One = box One
One = & Place
One = & mut Place
One = Place
One = name ( )
One = name ( ExprRow )
One = ( Expr )
One = ( ExprRow , Expr )
ExprRow = Expr
ExprRow = ExprRow , Expr
`

type rule struct {
	name  string
	parts []string
}

// item is a rule of which so many parts were found, the first of them so many tokens on.
type item struct{ rule, found, from int }

// oracle knows of what begins a program by another way than Parse: all rules at once (Earley's).
type oracle struct {
	rules []rule
	names map[string]bool
	sets  [][]item // what may be found, behind so many tokens
}

func newOracle() *oracle {
	o := &oracle{names: map[string]bool{}}
	for _, line := range strings.Split(strings.TrimSpace(grammar), "\n") {
		words := strings.Fields(line)
		o.rules = append(o.rules, rule{words[0], words[2:]})
		o.names[words[0]] = true
	}
	o.sets = [][]item{o.closed([]item{{0, 0, 0}, {1, 0, 0}})}
	return o
}

// next is what an item asks for next: nothing, if all of it was found.
func (o *oracle) next(x item) string {
	if parts := o.rules[x.rule].parts; x.found < len(parts) {
		return parts[x.found]
	}
	return ""
}

// closed is a set, and what follows from it without a token.
func (o *oracle) closed(set []item) []item {
	at := len(o.sets)
	seen := map[item]bool{}
	var out []item
	add := func(x item) {
		if !seen[x] {
			seen[x] = true
			out = append(out, x)
		}
	}
	for _, x := range set {
		add(x)
	}
	for grown := -1; grown != len(out); { // again, as what is empty is found where it begins
		grown = len(out)
		for i := 0; i < len(out); i++ {
			x := out[i]
			if want := o.next(x); want == "" {
				from := out
				if x.from < at {
					from = o.sets[x.from]
				}
				for _, y := range slices.Clone(from) {
					if o.next(y) == o.rules[x.rule].name {
						add(item{y.rule, y.found + 1, y.from})
					}
				}
			} else if o.names[want] {
				for k, r := range o.rules {
					if r.name == want {
						add(item{k, 0, at})
					}
				}
			}
		}
	}
	return out
}

// kinds are the words of the grammar that a token is.
func kinds(x api.Token) []string {
	word := strings.TrimPrefix(x.Text, "'")
	kept := slices.Contains(strings.Fields("fn let if else repeat ret box int mut where"), word)
	switch {
	case x.Kind == api.Number:
		if n, _ := strconv.Atoi(x.Text); n <= 29 {
			return []string{"number", "part"}
		}
		return []string{"number"}
	case x.Kind == api.Life && !kept:
		return []string{"life"}
	case x.Kind == api.Word && !kept:
		return []string{"name"}
	case x.Kind == api.Life:
		return nil
	}
	return []string{x.Text}
}

// push says whether there are programs that go on with that token, and if so goes on with it.
func (o *oracle) push(x api.Token) bool {
	var set []item
	for _, y := range o.sets[len(o.sets)-1] {
		if want := o.next(y); want != "" && !o.names[want] && slices.Contains(kinds(x), want) {
			set = append(set, item{y.rule, y.found + 1, y.from})
		}
	}
	if len(set) > 0 {
		o.sets = append(o.sets, o.closed(set))
	}
	return len(set) > 0
}

func (o *oracle) pop() { o.sets = o.sets[:len(o.sets)-1] }

// whole says whether what was gone through is a program.
func (o *oracle) whole() bool {
	return slices.ContainsFunc(o.sets[len(o.sets)-1], func(x item) bool {
		return x.from == 0 && o.rules[x.rule].name == "Program" && o.next(x) == ""
	})
}

// faultOf is where the oracle has a text's fault; -1 if it has none.
func faultOf(t *testing.T, s string) int {
	t.Helper()
	tokens, e := lex.Lex(s)
	if e != nil {
		t.Fatal(s, e)
	}
	o := newOracle()
	for _, x := range tokens {
		if !o.push(x) {
			return x.At
		}
	}
	if !o.whole() {
		return len(s)
	}
	return -1
}

// wantAt asks that Parse has a text's fault there; that it has none, if that is -1.
func wantAt(t *testing.T, s string, at int) {
	t.Helper()
	_, e := parse.Parse(s)
	var f *api.Fault
	if at < 0 && e != nil && !errors.Is(e, api.TooMuch) {
		t.Fatalf("P3.1: %q: %v, but nothing is wrong", s, e)
	}
	if at >= 0 && (!errors.As(e, &f) || f.At != at || f.Err != api.BadForm) {
		t.Fatalf("P3.1: %q: %v, want a fault at %d", s, e, at)
	}
}

// allBehind goes through all beginnings of programs that have, behind s, up to n of some tokens, and holds what Parse tells of each, with each of these tokens behind, against the oracle.
func allBehind(t *testing.T, o *oracle, s string, tokens []string, n int) int {
	count := 1
	if o.whole() {
		wantAt(t, s, -1)
	} else {
		wantAt(t, s, len(s))
	}
	for _, text := range tokens {
		l, _ := lex.Lex(text)
		more := s + " " + text
		if !o.push(l[0]) {
			wantAt(t, more, len(s)+1)
			wantAt(t, more+" ( ;", len(s)+1)
			continue
		}
		if n > 0 {
			count += allBehind(t, o, more, tokens, n-1)
		}
		o.pop()
	}
	return count
}

func TestAllThatBegins(t *testing.T) {
	for _, x := range []struct {
		head, tokens string
		n            int
	}{
		{"", "fn f int box ( ) -> { } [ ] 'a , : & mut where ret 1 ; 'fn ==", 10},
		{"fn f (", "x int ( ) , : & 'a mut box -> { ; 1 * where 'ret", 7},
		{"fn f ( ) -> int", "where 'a 'int : , { ret a fn ; }", 9},
		{"fn f ( ) ->", "int box ( ) , & 'a mut where { a 3 } 'mut", 6},
		{"fn f ( ) -> int {", "let x = 1 ; ret if { } else repeat * ( ) . fn", 6},
		{"fn f ( ) -> int { if x {", "x = 2 ; { } else let repeat ret", 7},
		{"fn f ( ) -> int {", "x ( ) . 29 30 = * & + , ret", 6},
		{"fn f ( ) -> int { ret", "x 1 30 . ( ) , ; } * & mut box < + == let 'a int", 4},
		{"fn f ( ) -> int { ret", "x ( ) . 1 , *", 6},
		{"fn f ( ) -> int { ret", "x < == + * / ( ) ; }", 6},
		{"fn f ( ) -> int { ret (", "x ( ) & mut box 1 , .", 5},
		{"fn f ( ) -> int { ret 1 ;", "} fn f ( ; x {", 5},
	} {
		o := newOracle()
		head, _ := lex.Lex(x.head)
		for _, y := range head {
			if !o.push(y) {
				t.Fatalf("%q begins no program", x.head)
			}
		}
		if n := allBehind(t, o, x.head, strings.Fields(x.tokens), x.n); n < 10 {
			t.Errorf("%q, %q: %d beginnings alone", x.head, x.tokens, n)
		}
	}
}

// someTexts have all of the grammar.
var someTexts = []string{
	"fn f['a,'b](x: box(int,int), y: &'b mut int) -> &'b mut int where 'a:'b,'b:'a { let z = 1; if z { *y = 2; } else { repeat 3 { z = 4; } } ret y; }",
	"fn main() -> (int, box int) { (*x).0 = 1; *(x).29 = f(1, &mut *x, (2, 3)); ret (1, box 2); } fn g() -> int { ret (a < b) == c - d * e / (f() + 007); }",
	"fn h(x: &'a &'b int) -> int { ((x)).1.2 = (((*x)).3, &(x).0); ret box box (1 + 2) < *x.1 * **y; }",
}

func TestTextsThatWereSpoilt(t *testing.T) {
	r := rand.New(rand.NewSource(1))
	more := strings.Fields("fn f let x if else repeat ret box int mut where 'a 'fn 0 29 30 -> == ( ( ( ) ) ) { } [ ] , , ; : . . & * = + - / <")
	blanks := []string{" ", " ", "\n", "\t ", " // x ;\n"}
	wrong := 0
	for i := range 20000 {
		l, _ := lex.Lex(someTexts[i%len(someTexts)])
		var words []string
		for _, x := range l {
			words = append(words, x.Text)
		}
		for range 1 + r.Intn(3) {
			k := r.Intn(len(words))
			switch r.Intn(5) {
			case 0:
				words = slices.Delete(words, k, k+1)
			case 1:
				words = slices.Insert(words, k, more[r.Intn(len(more))])
			case 2:
				words[k] = more[r.Intn(len(more))]
			case 3:
				words = slices.Insert(words, k, words[r.Intn(len(words))])
			case 4:
				words[k], words[r.Intn(len(words))] = words[r.Intn(len(words))], words[k]
			}
		}
		var b strings.Builder
		for _, w := range words {
			b.WriteString(w + blanks[r.Intn(len(blanks))])
		}
		at := faultOf(t, b.String())
		if at >= 0 {
			wrong++
		}
		wantAt(t, b.String(), at)
	}
	if wrong < 10000 || wrong > 19900 {
		t.Errorf("%d of 20000 were wrong", wrong)
	}
}

package parse_test

import (
	"math/rand"
	"reflect"
	"slices"
	"strings"
	"testing"

	"lienbook/api"
	"lienbook/parse"
)

// listed is n of one text, with commas between.
func listed(n int, s string) string { return strings.Join(slices.Repeat([]string{s}, n), ", ") }

func TestHowLongListsMayBe(t *testing.T) {
	for _, n := range []int{2, 29, 30, 31, 32, 300} {
		many := func(s string) string { return strings.Repeat(s, n) }
		for what, s := range map[string]string{
			"functions": many("fn f() -> int { ret 1; }\n"),
			"lives":     "fn f[" + listed(n, "'a") + "]() -> int { ret 1; }",
			"params":    "fn f(" + listed(n, "x: int") + ") -> int { ret 1; }",
			"tuple":     typeHead + "(" + listed(n, "int") + ")" + typeTail,
			"row":       exprHead + "(" + listed(n, "1") + ")" + exprTail,
			"call":      exprHead + "f(" + listed(n, "1") + ")" + exprTail,
			"body":      stmtHead + many("x = 1; ") + stmtTail,
			"then":      stmtHead + "if 1 { " + many("x = 1; ") + "} else { }" + stmtTail,
			"else":      stmtHead + "if 1 { } else { " + many("x = 1; ") + "}" + stmtTail,
			"repeat":    stmtHead + "repeat 1 { " + many("let x = 1; ") + "}" + stmtTail,
		} {
			if n <= 30 {
				parsed(t, s)
			} else {
				wantTooMuch(t, []any{what, n}, s)
			}
		}
	}
	for n := 1; n < 40; n++ {
		s := "fn f() -> int where " + listed(n, "'a: 'b") + " { ret 1; }"
		if n > 15 {
			wantTooMuch(t, []any{"outs", n}, s)
		} else if p := parsed(t, s); len(p[0].Outs) != 2*n {
			t.Errorf("P3.1: %q: %v", s, p)
		}
	}
}

func TestHowDeepTreesMayBe(t *testing.T) {
	for _, n := range []int{1, 39, 40, 41, 42, 400} {
		many := func(s string) string { return strings.Repeat(s, n) }
		less := func(s string) string { return strings.Repeat(s, n-1) }
		for what, s := range map[string]string{
			"type":   typeHead + many("box ") + "int" + typeTail,
			"tuple":  typeHead + many("(int, ") + "int" + many(")") + typeTail,
			"param":  "fn f(x: " + many("&'a ") + "int) -> int { ret 1; }",
			"boxes":  exprHead + many("box ") + "1" + exprTail,
			"stars":  exprHead + many("*") + "x" + exprTail,
			"parts":  exprHead + "x" + many(".0") + exprTail,
			"calls":  exprHead + many("f(") + "x" + many(")") + exprTail,
			"sums":   exprHead + many("1 + ") + "1" + exprTail,
			"let":    stmtHead + "let x = " + less("box ") + "1;" + stmtTail,
			"place":  stmtHead + less("*") + "x = 1;" + stmtTail,
			"ifs":    stmtHead + less("if 1 { ") + "x = 1; " + less("} else { }") + stmtTail,
			"elses":  stmtHead + less("if 1 { } else { ") + "x = 1; " + less("} ") + stmtTail,
			"behind": exprHead + "1" + exprTail + exprHead + many("box ") + "1" + exprTail,
		} {
			if n <= 40 {
				parsed(t, s)
			} else {
				wantTooMuch(t, []any{what, n}, s)
			}
		}
	}
	// In parentheses that they stand in, operations count one more: 20 of them are 39 deep.
	for n, right := range map[int]bool{20: true, 21: false} {
		s := exprHead + strings.Repeat("1 - (", n-1) + "1 - 1" + strings.Repeat(")", n-1) + exprTail
		if right {
			parsed(t, s)
		} else {
			wantTooMuch(t, n, s)
		}
	}
}

func TestHowManyLoopsMayBe(t *testing.T) {
	for n, right := range map[int]bool{1: true, 2: true, 3: true, 4: false, 5: false} {
		s := stmtHead + strings.Repeat("if 1 { } else { repeat 1 { ", n) + strings.Repeat("} } ", n) + stmtTail
		if right {
			parsed(t, s)
		} else {
			wantTooMuch(t, n, s)
		}
	}
}

func TestHowLongATextMayBe(t *testing.T) {
	s := exprHead + "1" + exprTail
	parsed(t, s+strings.Repeat(" ", 20000-len(s)))
	wantTooMuch(t, "20001 bytes", s+strings.Repeat(" ", 20001-len(s)))
	wantTooMuch(t, "20001 blanks", strings.Repeat(" ", 20001))
	wantTooMuch(t, "20001 bytes that are no program", strings.Repeat("!", 20001))
	wantFault(t, "fn"+strings.Repeat(" ", 19998), 20000, api.BadForm)
	wantFault(t, strings.Repeat(" ", 19999)+"x", 19999, api.BadForm)
	wantFault(t, strings.Repeat(" ", 19999)+"!", 19999, api.BadSign)
}

func TestWhichErrorIsFirst(t *testing.T) {
	deep := exprHead + strings.Repeat("box ", 41) + "1" + exprTail
	wantTooMuch(t, "too deep", deep)
	wantFault(t, deep+" x", len(deep)+1, api.BadForm)
	wantFault(t, deep+" fn", len(deep)+3, api.BadForm)
	wantFault(t, deep+" !", len(deep)+1, api.BadSign)
	wantFault(t, ") ) !", 4, api.BadSign)
	wantFault(t, "fn fn x 1234567890123456789", 8, api.BadSign)
	wantFault(t, exprHead+strings.Repeat("9", 19)+exprTail, len(exprHead), api.BadSign)
	wantFault(t, exprHead+strings.Repeat("x", 31)+exprTail, len(exprHead), api.BadSign)
}

func TestParenthesesAloneAreNotDeep(t *testing.T) {
	for _, n := range []int{1, 40, 41, 500, 9900} {
		for in, want := range map[string]api.Expr{"1": lit(1), "x": v("x"), "x.1": part(1, v("x"))} {
			p := parsed(t, exprHead+strings.Repeat("(", n)+in+strings.Repeat(")", n)+exprTail)
			if !reflect.DeepEqual(p[0].Value, want) {
				t.Errorf("P3.1: %d of them: %v", n, p)
			}
		}
	}
	s := strings.Repeat("(", 9900) + "x" + strings.Repeat(")", 9900)
	if p := parsed(t, stmtHead+s+" = 1;"+stmtTail); !reflect.DeepEqual(p[0].Body[0].Place, v("x")) {
		t.Errorf("P3.1: a place: %v", p)
	}
}

func TestTextsOfOneThingAlone(t *testing.T) {
	for _, s := range []string{"(", "*", "((", "box ", "&", "&(", "*(", "f(", "(1,", "f(1,", "1+", "1-(", "1<(", "x.1+", "box(", "&mut *("} {
		n := (20000 - len(exprHead)) / len(s)
		text := exprHead + strings.Repeat(s, n)
		at := len(text)
		if strings.HasPrefix(s, "&") {
			at = len(exprHead + s) // what is lent is a place, and no second & begins one
		}
		wantFault(t, text, at, api.BadForm)
	}
	for _, s := range []string{"box ", "(", "&'a ", "(int,", "&'a mut("} {
		text := typeHead + strings.Repeat(s, (20000-len(typeHead))/len(s))
		wantFault(t, text, len(text), api.BadForm)
	}
	for _, s := range []string{"if 1{", "repeat 1{", "if 1{}else{", "x=1;", "(", "*"} {
		text := stmtHead + strings.Repeat(s, (20000-len(stmtHead))/len(s))
		wantFault(t, text, len(text), api.BadForm)
	}
	for what, s := range map[string]string{
		"boxes": exprHead + strings.Repeat("box ", 4900) + "1" + exprTail,
		"stars": exprHead + strings.Repeat("*", 19900) + "x" + exprTail,
		"sums":  exprHead + strings.Repeat("1+", 9900) + "1" + exprTail,
		"parts": exprHead + "x" + strings.Repeat(".0", 9900) + exprTail,
		"rows":  exprHead + strings.Repeat("(1,", 4900) + "1" + strings.Repeat(")", 4900) + exprTail,
		"loops": stmtHead + strings.Repeat("repeat 1{", 1900) + strings.Repeat("}", 1900) + stmtTail,
		"types": typeHead + strings.Repeat("&'a ", 4900) + "int" + typeTail,
	} {
		wantTooMuch(t, what, s)
	}
}

func TestAnyBytes(t *testing.T) {
	r := rand.New(rand.NewSource(3))
	const some = "fn let if else repeat ret box int mut where 'a x 0 -> == ( ) { } [ ] , ; : . & * = + - / <\n\t//!'\x00\xff"
	for range 20000 {
		b := make([]byte, r.Intn(60))
		for i := range b {
			b[i] = some[r.Intn(len(some))]
		}
		s := string(b)
		p, e := parse.Parse(s)
		q, f := parse.Parse(s)
		if e != nil && len(p) != 0 || !reflect.DeepEqual(p, q) || !reflect.DeepEqual(e, f) {
			t.Fatalf("P3.1: %q: %v %v, %v %v", s, p, e, q, f)
		}
	}
}

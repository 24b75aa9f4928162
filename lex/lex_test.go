package lex_test

import (
	"errors"
	"regexp"
	"slices"
	"strings"
	"testing"

	"lienbook/api"
	"lienbook/lex"
)

// tokens are what Lex tells of a text in which nothing is wrong.
func tokens(t *testing.T, s string) []api.Token {
	t.Helper()
	l, e := lex.Lex(s)
	if e != nil {
		t.Fatalf("%q: %v", s, e)
	}
	return l
}

func wantTokens(t *testing.T, s string, want ...api.Token) {
	t.Helper()
	if got := tokens(t, s); !slices.Equal(got, want) {
		t.Errorf("P1.1: %q: got %v, want %v", s, got, want)
	}
}

func wantFault(t *testing.T, s string, at int) {
	t.Helper()
	l, e := lex.Lex(s)
	var f *api.Fault
	if !errors.As(e, &f) || f.At != at || !errors.Is(e, api.BadSign) || len(l) != 0 {
		t.Errorf("P1.1: %q: got %v, %v, want a fault of BadSign at %d", s, l, e, at)
	}
}

func TestOrdinaryTexts(t *testing.T) {
	wantTokens(t, "&'a mut x",
		api.Token{Kind: api.Mark, At: 0, Text: "&"},
		api.Token{Kind: api.Life, At: 1, Text: "'a"},
		api.Token{Kind: api.Word, At: 4, Text: "mut"},
		api.Token{Kind: api.Word, At: 8, Text: "x"})
	wantTokens(t, "let x_1=(*_Y).0 + 12;\n",
		api.Token{Kind: api.Word, At: 0, Text: "let"},
		api.Token{Kind: api.Word, At: 4, Text: "x_1"},
		api.Token{Kind: api.Mark, At: 7, Text: "="},
		api.Token{Kind: api.Mark, At: 8, Text: "("},
		api.Token{Kind: api.Mark, At: 9, Text: "*"},
		api.Token{Kind: api.Word, At: 10, Text: "_Y"},
		api.Token{Kind: api.Mark, At: 12, Text: ")"},
		api.Token{Kind: api.Mark, At: 13, Text: "."},
		api.Token{Kind: api.Number, At: 14, Text: "0"},
		api.Token{Kind: api.Mark, At: 16, Text: "+"},
		api.Token{Kind: api.Number, At: 18, Text: "12"},
		api.Token{Kind: api.Mark, At: 20, Text: ";"})
}

func TestTextWithoutTokens(t *testing.T) {
	for _, s := range []string{"", " ", "\t\n \n", "//", "// a remark", "// one\n\t// another\n"} {
		wantTokens(t, s)
	}
}

func TestEveryMark(t *testing.T) {
	for _, m := range strings.Fields("-> == ( ) { } [ ] , ; : . & * = + - / <") {
		wantTokens(t, m, api.Token{Kind: api.Mark, At: 0, Text: m})
		wantTokens(t, "x"+m+"1",
			api.Token{Kind: api.Word, At: 0, Text: "x"},
			api.Token{Kind: api.Mark, At: 1, Text: m},
			api.Token{Kind: api.Number, At: 1 + len(m), Text: "1"})
	}
}

func TestEveryLetterAndDigit(t *testing.T) {
	const letters = "abcdefghijklmnopqrstuvwxyzABCDEFGHIJKLMNOPQRSTUVWXYZ_"
	const digits = "0123456789"
	for _, l := range letters {
		wantTokens(t, string(l), api.Token{Kind: api.Word, At: 0, Text: string(l)})
		wantTokens(t, "'"+string(l), api.Token{Kind: api.Life, At: 0, Text: "'" + string(l)})
		wantTokens(t, "x"+string(l), api.Token{Kind: api.Word, At: 0, Text: "x" + string(l)})
	}
	for _, d := range digits {
		wantTokens(t, string(d), api.Token{Kind: api.Number, At: 0, Text: string(d)})
		wantTokens(t, "x"+string(d), api.Token{Kind: api.Word, At: 0, Text: "x" + string(d)})
		wantFault(t, "'"+string(d), 0)
	}
}

func TestTheLongestIsTaken(t *testing.T) {
	wantTokens(t, "===",
		api.Token{Kind: api.Mark, At: 0, Text: "=="},
		api.Token{Kind: api.Mark, At: 2, Text: "="})
	wantTokens(t, "--><-",
		api.Token{Kind: api.Mark, At: 0, Text: "-"},
		api.Token{Kind: api.Mark, At: 1, Text: "->"},
		api.Token{Kind: api.Mark, At: 3, Text: "<"},
		api.Token{Kind: api.Mark, At: 4, Text: "-"})
	wantTokens(t, "12ab34",
		api.Token{Kind: api.Number, At: 0, Text: "12"},
		api.Token{Kind: api.Word, At: 2, Text: "ab34"})
	wantTokens(t, "'a'b",
		api.Token{Kind: api.Life, At: 0, Text: "'a"},
		api.Token{Kind: api.Life, At: 2, Text: "'b"})
	wantTokens(t, "/ /x",
		api.Token{Kind: api.Mark, At: 0, Text: "/"},
		api.Token{Kind: api.Mark, At: 2, Text: "/"},
		api.Token{Kind: api.Word, At: 3, Text: "x"})
	wantTokens(t, "x///y", api.Token{Kind: api.Word, At: 0, Text: "x"})
}

func TestRemarks(t *testing.T) {
	a := api.Token{Kind: api.Word, At: 0, Text: "a"}
	wantTokens(t, "a// to the end of the text", a)
	wantTokens(t, "a//", a)
	wantTokens(t, "a//\n", a)
	wantTokens(t, "a// ! > \" \r \x00 \xff é 'x\nb", a, api.Token{Kind: api.Word, At: 22, Text: "b"})
	wantTokens(t, "a//x\n//y\n/ b", a,
		api.Token{Kind: api.Mark, At: 9, Text: "/"},
		api.Token{Kind: api.Word, At: 11, Text: "b"})
	wantFault(t, "// remark\n!", 10)
	wantFault(t, "a /! b", 3)
}

func TestHowLongTextsMayBe(t *testing.T) {
	for _, s := range []string{" ", "!", "(", "//"} {
		long := strings.Repeat(s, api.MaxText)[:api.MaxText]
		if _, e := lex.Lex(long); errors.Is(e, api.TooMuch) {
			t.Errorf("P1.1: 20000 bytes of %q: %v", s, e)
		}
		l, e := lex.Lex(long + " ")
		if !errors.Is(e, api.TooMuch) || len(l) != 0 {
			t.Errorf("P1.1: 20001 bytes of %q: %v %v", s, len(l), e)
		}
	}
	if l := tokens(t, strings.Repeat("(", 20000)); len(l) != 20000 || l[19999].At != 19999 {
		t.Errorf("P1.1: 20000 marks: %d tokens", len(l))
	}
	wantTokens(t, strings.Repeat(" ", 19999)+"x", api.Token{Kind: api.Word, At: 19999, Text: "x"})
	wantFault(t, strings.Repeat(" ", 19999)+"!", 19999)
	// Bytes are counted, not runes.
	if _, e := lex.Lex("//" + strings.Repeat("é", 10000)); !errors.Is(e, api.TooMuch) {
		t.Errorf("P1.1: 20002 bytes in 10002 runes: %v", e)
	}
}

func TestHowLongTokensMayBe(t *testing.T) {
	word, number := strings.Repeat("x", 30), strings.Repeat("9", 18)
	wantTokens(t, word, api.Token{Kind: api.Word, At: 0, Text: word})
	wantTokens(t, "'"+word, api.Token{Kind: api.Life, At: 0, Text: "'" + word})
	wantTokens(t, number, api.Token{Kind: api.Number, At: 0, Text: number})
	wantTokens(t, number+word,
		api.Token{Kind: api.Number, At: 0, Text: number},
		api.Token{Kind: api.Word, At: 18, Text: word})
	wantTokens(t, "x"+number, api.Token{Kind: api.Word, At: 0, Text: "x" + number})

	wantFault(t, word+"x", 0)
	wantFault(t, word+"1", 0)
	wantFault(t, "+ "+word+"_ !", 2)
	wantFault(t, "'"+word+"x", 0)
	wantFault(t, number+"0", 0)
	wantFault(t, "x="+number+"0x", 2)
	wantFault(t, strings.Repeat("0", 19), 0)
	wantFault(t, strings.Repeat("9", 20000), 0)
	wantFault(t, strings.Repeat("'", 20000), 0)
}

func TestWrongBytes(t *testing.T) {
	const known = "abcdefghijklmnopqrstuvwxyzABCDEFGHIJKLMNOPQRSTUVWXYZ_0123456789 \t\n(){}[],;:.&*=+-/<"
	for b := range 256 {
		s := string([]byte{byte(b)})
		if strings.Contains(known, s) {
			tokens(t, "x "+s)
			continue
		}
		wantFault(t, s, 0)
		wantFault(t, "x "+s+" !", 2)
	}
}

func TestWrongTexts(t *testing.T) {
	for s, at := range map[string]int{
		"a !": 2, "a > b": 2, "a\r\nb": 1, "\v": 0, "\f": 0, "\u00a0": 0, "\ufeffx": 0,
		"é": 0, "aé": 1, "aA\u0391": 2, "٣": 0, "1٣": 1, "\ufffd": 0, "\U0001f600": 0,
		"x\xff": 1, "x \xc3": 2, "\xed\xa0\x80": 0, "\xc0\xaf": 0, "'\xff": 0, "'é": 0,
		"'": 0, "x ' a": 2, "'1": 0, "''a": 0, "'a'": 2, "a\x00": 1, "\"": 0, "! @": 0,
		"// é\n;é": 7,
	} {
		wantFault(t, s, at)
	}
}

// sign is one token, or blank, by another way: what the longest word, number, life, mark, or blank is.
var sign = regexp.MustCompile(`^(?:([A-Za-z_][A-Za-z_0-9]*)|([0-9]+)|('[A-Za-z_][A-Za-z_0-9]*)|(//[^\n]*|[ \t\n])|(->|==|[(){}\[\],;:.&*=+/<-]))`)

// slow is what Lex must tell of a short text; without tokens, where the fault is.
func slow(s string) (out []api.Token, at int) {
	for at < len(s) {
		m := sign.FindStringSubmatch(s[at:])
		switch {
		case m == nil:
			return nil, at
		case m[1] != "":
			out = append(out, api.Token{Kind: api.Word, At: at, Text: m[0]})
		case m[2] != "":
			out = append(out, api.Token{Kind: api.Number, At: at, Text: m[0]})
		case m[3] != "":
			out = append(out, api.Token{Kind: api.Life, At: at, Text: m[0]})
		case m[5] != "":
			out = append(out, api.Token{Kind: api.Mark, At: at, Text: m[0]})
		}
		at += len(m[0])
	}
	return out, -1
}

// shortTexts hands out s, and every text that has it and up to n of some signs behind it.
func shortTexts(s string, n int, yield func(string)) {
	yield(s)
	if n == 0 {
		return
	}
	for _, c := range []string{"a", "_", "7", "'", "-", ">", "=", "/", "\n", "!", "\xff", "é"} {
		shortTexts(s+c, n-1, yield)
	}
}

func TestAllShortTexts(t *testing.T) {
	shortTexts("", 5, func(s string) {
		want, at := slow(s)
		l, e := lex.Lex(s)
		var f *api.Fault
		if at >= 0 {
			if !errors.As(e, &f) || f.At != at || f.Err != api.BadSign || l != nil {
				t.Fatalf("P1.1: %q: got %v, %v, want a fault at %d", s, l, e, at)
			}
		} else if e != nil || !slices.Equal(l, want) {
			t.Fatalf("P1.1: %q: got %v, %v, want %v", s, l, e, want)
		}
	})
}

var someTexts = []string{
	"", "x", "fn main() -> int {\n\tret 1 + 2;\n}\n", "// ahead\n&'a mut x // behind", "a->b==c=d-e<f/g",
	"12ab 'a'b((*x).0)[:]", "let r = &mut *x.1; // a\n// b\n\n*r = (1, 2);", "= = == - -> / / ===",
}

func TestOnlyBlankIsLeftOut(t *testing.T) {
	blank := regexp.MustCompile(`^(?:[ \t\n]|//[^\n]*(?:\n|$))*$`)
	for _, s := range someTexts {
		end := 0
		for _, x := range append(tokens(t, s), api.Token{At: len(s)}) {
			if x.At < end || !blank.MatchString(s[end:x.At]) {
				t.Fatalf("P1.2: %q: not blank ahead of %v", s, x)
			}
			end = x.At + len(x.Text)
			if end > len(s) || s[x.At:end] != x.Text {
				t.Fatalf("P1.2: %q: %v isn't there", s, x)
			}
		}
	}
}

func TestBlankBetweenTokensChangesPlacesAlone(t *testing.T) {
	for _, s := range someTexts {
		l := tokens(t, s)
		for _, blank := range []string{" ", "\t", "\n", " \n\t ", " // é ' !\n", "\n//\n"} {
			for i := range len(l) + 1 {
				at := len(s)
				if i < len(l) {
					at = l[i].At
				}
				want := slices.Clone(l)
				for k := i; k < len(want); k++ {
					want[k].At += len(blank)
				}
				put := s[:at] + blank + s[at:]
				if i == len(l) && strings.HasSuffix(s, "behind") {
					put = s + "\n" + blank // a remark at the end would take it in
				}
				if got := tokens(t, put); !slices.Equal(got, want) {
					t.Errorf("P1.2: %q: got %v, want %v", put, got, want)
				}
			}
		}
	}
}

func TestRemarkBehindTheLastToken(t *testing.T) {
	for _, s := range someTexts {
		l := tokens(t, s)
		for _, blank := range []string{" ", "\n", " // to the end", "\n//"} {
			if got := tokens(t, s+blank); !slices.Equal(got, l) {
				t.Errorf("P1.2: %q: got %v, want %v", s+blank, got, l)
			}
		}
	}
}

func TestTheSameTwice(t *testing.T) {
	for _, s := range someTexts {
		first := tokens(t, s)
		want := slices.Clone(first)
		for i := range first {
			first[i] = api.Token{}
		}
		if got := tokens(t, s); !slices.Equal(got, want) {
			t.Errorf("rules 3 and 4: %q: got %v, want %v", s, got, want)
		}
	}
}

// Package lex is layer 1: the signs of a text. See shared/doc/01-lex.md.
package lex

import (
	"strings"
	"unicode/utf8"

	"lienbook/api"
)

const (
	maxDigits = 18 // digits of a number
	remark    = "//"
	quote     = "'"
	arrow     = "->"
	same      = "=="
	marks     = "(){}[],;:.&*=+-/<" // those of one byte
)

// Lex: the tokens of a text. TooMuch, BadSign.
func Lex(s string) ([]api.Token, error) {
	if len(s) > api.MaxText {
		return nil, api.TooMuch
	}
	var out []api.Token
	for at := blank(s); at < len(s); at += blank(s[at:]) {
		kind, size := sign(s[at:])
		if size == 0 {
			return nil, &api.Fault{At: at, Err: api.BadSign}
		}
		out = append(out, api.Token{Kind: kind, At: at, Text: s[at : at+size]})
		at += size
	}
	return out, nil
}

// sign: the kind of the token at the beginning of s, and how many bytes it has: 0, 0 if none is there.
func sign(s string) (kind, size int) {
	if size = word(s); size > 0 {
		return api.Word, size
	}
	if size = number(s); size > 0 {
		return api.Number, size
	}
	if size = life(s); size > 0 {
		return api.Life, size
	}
	if size = mark(s); size > 0 {
		return api.Mark, size
	}
	return 0, 0
}

// blank: how many blank bytes are at the beginning of s.
func blank(s string) int {
	at := 0
	for {
		size := span(s[at:], isBlank)
		// A remark goes before the mark /, as the longest is taken.
		if strings.HasPrefix(s[at+size:], remark) {
			size += span(s[at+size:], inRemark)
		}
		if size == 0 {
			return at
		}
		at += size
	}
}

// word: how many bytes the word at the beginning of s has: 0 if none is there, or it is too long.
func word(s string) int {
	size := span(s, inWord)
	if size > api.MaxName || span(s, isDigit) > 0 {
		return 0
	}
	return size
}

// number: how many bytes the number at the beginning of s has: 0 if none is there, or it is too long.
func number(s string) int {
	size := span(s, isDigit)
	if size > maxDigits {
		return 0
	}
	return size
}

// life: how many bytes the life at the beginning of s has: 0 if none is there.
func life(s string) int {
	name, ok := strings.CutPrefix(s, quote)
	if !ok {
		return 0
	}
	size := word(name)
	if size == 0 {
		return 0
	}
	return len(quote) + size
}

// mark: how many bytes the mark at the beginning of s has: 0 if none is there.
func mark(s string) int {
	if strings.HasPrefix(s, arrow) || strings.HasPrefix(s, same) {
		return 2
	}
	if first, _ := utf8.DecodeRuneInString(s); strings.ContainsRune(marks, first) {
		return 1
	}
	return 0
}

// span: how many bytes the runes at the beginning of s have that are in a set.
func span(s string, in func(rune) bool) int {
	for at, r := range s {
		if !in(r) {
			return at
		}
	}
	return len(s)
}

func isBlank(r rune) bool { return r == ' ' || r == '\t' || r == '\n' }

func inRemark(r rune) bool { return r != '\n' }

func isDigit(r rune) bool { return '0' <= r && r <= '9' }

func isLetter(r rune) bool { return 'a' <= r && r <= 'z' || 'A' <= r && r <= 'Z' || r == '_' }

func inWord(r rune) bool { return isLetter(r) || isDigit(r) }

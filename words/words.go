// Package words tells which words the language keeps for itself: tree and parse both ask that of names.
package words

// IsKept: is it a word that may be no name?
func IsKept(s string) bool {
	switch s {
	case "fn", "let", "if", "else", "repeat", "ret", "box", "int", "mut", "where":
		return true
	}
	return false
}

// Package texts tells which strings are names and texts, folds texts, and
// finds their words.
package texts

import (
	"strings"
	"unicode/utf8"
)

// MaxText and MaxName are the most bytes that a text and a name may have.
const (
	MaxText = 24
	MaxName = 8
)

// IsName tells whether s is a name.
func IsName(s string) bool {
	if len(s) < 1 || len(s) > MaxName {
		return false
	}
	for i := range len(s) {
		if !isWordByte(s[i]) {
			return false
		}
	}
	return true
}

// IsText tells whether s is a text.
func IsText(s string) bool {
	return s != "" && IsTyped(s)
}

// IsTyped tells whether s may have been typed: a text, or nothing yet.
func IsTyped(s string) bool {
	if len(s) > MaxText {
		return false
	}
	for i := range len(s) {
		if s[i] < 32 || s[i] > 126 {
			return false
		}
	}
	return true
}

// Fold answers s with small letters in place of great ones. It goes by bytes,
// not runes, so that the folded form is always as long as s.
func Fold(s string) string {
	folded := []byte(s)
	for i, b := range folded {
		if b >= 'A' && b <= 'Z' {
			folded[i] = b - 'A' + 'a'
		}
	}
	return string(folded)
}

// Words answers the words of a folded text, one behind the other.
func Words(folded string) []string {
	return strings.FieldsFunc(folded, func(r rune) bool {
		return r >= utf8.RuneSelf || !isWordByte(byte(r))
	})
}

// WordBegins tells whether a word of a folded text begins at that byte.
func WordBegins(folded string, at int) bool {
	return isWordByte(folded[at]) && (at == 0 || !isWordByte(folded[at-1]))
}

func isWordByte(b byte) bool {
	return b >= 'a' && b <= 'z' || b >= '0' && b <= '9'
}

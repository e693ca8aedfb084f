package match

import (
	"strings"
	"testing"
)

var cases = []struct {
	mode  Mode
	query string
	text  string
	want  bool
}{
	{Whole, "", "a", true},
	{Whole, "new", "new york", true},
	{Whole, "new ", "new york", true},
	{Whole, "new", "new", true},
	{Whole, "news", "new", false},
	{Whole, "new", "ne", false},
	{Whole, "new", "a new", false},
	{Whole, "ew", "new", false},
	{Whole, "-", "-a", true},

	{Word, "york", "york", true},
	{Word, "york", "new york", true},
	{Word, "new y", "new york", true},
	{Word, "ew", "new york", false},
	{Word, " york", "new york", false},
	{Word, "yorks", "new york", false},
	{Word, "yo y", "x-yo yo", true},
	{Word, "yo", "x1yo", false},
	{Word, "yo", "1-yo", true},
	{Word, "9", "a 9", true},
	{Word, "9", "a9", false},
	{Word, "a", "~a", true},
	{Word, "-", "-", false},
	{Word, "-", "a-", false},
	{Word, "", "a", true},
	{Word, "", "-a", true},
	{Word, "", "z", true},
	{Word, "", "0", true},
	{Word, "", "9", true},
	{Word, "", " -~", false},
	{Word, "", "`{/:@[", false},
	{Word, "ba", "baba", true},
	{Word, "ba!", "ba ba!", true},

	{OneChange, "", "a", true},
	{OneChange, "z", "abc", true},
	{OneChange, "zz", "abc", false},
	{OneChange, "abc", "abcd", true},
	{OneChange, "xabc", "abcd", true},
	{OneChange, "axbc", "abcd", true},
	{OneChange, "abcx", "abcd", true},
	{OneChange, "bcd", "abcd", true},
	{OneChange, "acd", "abcd", true},
	{OneChange, "abd", "abcd", true},
	{OneChange, "xbcd", "abcd", true},
	{OneChange, "axcd", "abcd", true},
	{OneChange, "abcx", "abc", true},
	{OneChange, "abcxx", "abc", false},
	{OneChange, "abxx", "abcd", false},
	{OneChange, "acbd", "abcd", false},
	{OneChange, "nwe", "newark", true},
	{OneChange, "yrok", "york", false},
	{OneChange, "ab", "a", true},
	{OneChange, "abc", "a", false},
	{OneChange, "new york", "york", false},

	{TwoChanges, "", "a", true},
	{TwoChanges, "zz", "a", true},
	{TwoChanges, "zzz", "abc", false},
	{TwoChanges, "yrok", "york", true},
	{TwoChanges, "yorkxx", "york", true},
	{TwoChanges, "yorkxxx", "york", false},
	{TwoChanges, "xxyork", "york", true},
	{TwoChanges, "rk", "york", true},
	{TwoChanges, "k", "york", true},
	{TwoChanges, "rkx", "york", false},
	{TwoChanges, "xyorkx", "york", true},
	{TwoChanges, "orx", "york", true},
	{TwoChanges, "abc", "a", true},
	{TwoChanges, "abcd", "a", false},

	{-1, "a", "a", false},
	{4, "a", "a", false},
}

func TestFits(t *testing.T) {
	for _, c := range cases {
		if got := Fits(c.mode, c.query, c.text); got != c.want {
			t.Errorf("Fits(%d, %q, %q) = %v", c.mode, c.query, c.text, got)
		}
	}
}

// TestChangesOfAllShortOnes: all queries and texts of few different bytes,
// held against all that a query can be changed to, written out.
func TestChangesOfAllShortOnes(t *testing.T) {
	short := allUpTo(4)
	for _, query := range short {
		once := map[string]bool{query: true}
		addChanged(once, query)
		twice := map[string]bool{}
		for s := range once {
			twice[s] = true
			addChanged(twice, s)
		}
		for _, text := range short {
			if got, want := Fits(OneChange, query, text), someBeginning(once, text); got != want {
				t.Errorf("one change: %q, %q: %v", query, text, got)
			}
			if got, want := Fits(TwoChanges, query, text), someBeginning(twice, text); got != want {
				t.Errorf("two changes: %q, %q: %v", query, text, got)
			}
		}
	}
}

const alphabet = "abc"

func allUpTo(length int) []string {
	all := []string{""}
	for from := 0; length > 0; length-- {
		to := len(all)
		for _, s := range all[from:to] {
			for _, b := range alphabet {
				all = append(all, s+string(b))
			}
		}
		from = to
	}
	return all
}

func addChanged(set map[string]bool, s string) {
	for at := range len(s) + 1 {
		for _, b := range alphabet {
			set[s[:at]+string(b)+s[at:]] = true
			if at < len(s) {
				set[s[:at]+string(b)+s[at+1:]] = true
			}
		}
		if at < len(s) {
			set[s[:at]+s[at+1:]] = true
		}
	}
}

func someBeginning(set map[string]bool, text string) bool {
	for end := range len(text) + 1 {
		if set[text[:end]] {
			return true
		}
	}
	return false
}

// TestLongOnes: as long as a text and a query may be.
func TestLongOnes(t *testing.T) {
	text := strings.Repeat("ab", 12)
	for _, c := range []struct {
		query string
		least Mode
	}{
		{text, Whole},
		{text[:23] + "x", OneChange},
		{"x" + text[1:], OneChange},
		{"x" + text[:23], OneChange},
		{text[1:] + "x", TwoChanges},
		{"x" + text[1:23] + "x", TwoChanges},
		{"xx" + text[:22], TwoChanges},
		{"xxx" + text[:21], TwoChanges + 1},
		{strings.Repeat("x", 24), TwoChanges + 1},
	} {
		for _, mode := range []Mode{Whole, OneChange, TwoChanges} {
			if got := Fits(mode, c.query, text); got != (mode >= c.least) {
				t.Errorf("Fits(%d, %q, %q) = %v", mode, c.query, text, got)
			}
		}
	}
}

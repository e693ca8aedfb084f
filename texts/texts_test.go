package texts

import (
	"slices"
	"strings"
	"testing"
)

func TestIsName(t *testing.T) {
	for _, good := range []string{"a", "z", "0", "9", "a0z9", "abcdefgh", "01234567"} {
		if !IsName(good) {
			t.Errorf("%q is a name", good)
		}
	}
	bad := []string{"", "abcdefghi", "A", "Z", "a b", " a", "a ", "a-b", "a_b", "\x00", "a\n", "\u00e9", "\xff", strings.Repeat("a", 1<<20)}
	for _, neighbour := range []byte{'a' - 1, 'z' + 1, '0' - 1, '9' + 1} {
		bad = append(bad, string(rune(neighbour)))
	}
	for _, s := range bad {
		if IsName(s) {
			t.Errorf("%.40q is no name", s)
		}
	}
}

func TestIsText(t *testing.T) {
	for _, good := range []string{" ", "~", "a", "New York", strings.Repeat("x", MaxText)} {
		if !IsText(good) {
			t.Errorf("%q is a text", good)
		}
	}
	for _, bad := range []string{"", strings.Repeat("x", MaxText+1), "\x1f", "\x7f", "a\x00", "\ta", "a\x80b", "\u00e9", strings.Repeat("x", 1<<20)} {
		if IsText(bad) {
			t.Errorf("%.40q is no text", bad)
		}
	}
}

func TestIsTyped(t *testing.T) {
	for _, good := range []string{"", " ", "~", "New Y", strings.Repeat("x", MaxText)} {
		if !IsTyped(good) {
			t.Errorf("%q may be typed", good)
		}
	}
	for _, bad := range []string{strings.Repeat("x", MaxText+1), "\x1f", "\x7f", "a\x00", "\ta", "a\x80b", "\u00e9", strings.Repeat("x", 1<<20)} {
		if IsTyped(bad) {
			t.Errorf("%.40q may not be typed", bad)
		}
	}
}

func TestWordBegins(t *testing.T) {
	for text, want := range map[string]string{
		"a":          "^",
		"-":          ".",
		"new york":   "^...^...",
		" x1-y  z-":  ".^..^..^.",
		"a9 9a/0:z{": "^..^..^.^.",
		"`a@b[c":     ".^.^.^",
	} {
		got := ""
		for at := range len(text) {
			if WordBegins(text, at) {
				got += "^"
			} else {
				got += "."
			}
		}
		if got != want {
			t.Errorf("words of %q begin at %q, want %q", text, got, want)
		}
	}
}

func TestEveryByte(t *testing.T) {
	for b := range 256 {
		s := string([]byte{byte(b)})
		inName := strings.Contains("abcdefghijklmnopqrstuvwxyz0123456789", s)
		if IsName(s) != inName || IsName("a"+s) != inName {
			t.Errorf("the byte %d in a name: want %v", b, inName)
		}
		inText := b >= 32 && b <= 126
		if IsText(s) != inText || IsText("a"+s) != inText || IsTyped(s) != inText {
			t.Errorf("the byte %d in a text: want %v", b, inText)
		}
		if WordBegins(s, 0) != inName {
			t.Errorf("the byte %d in a word: want %v", b, inName)
		}
	}
}

func TestFold(t *testing.T) {
	for s, want := range map[string]string{
		"":             "",
		"New York":     "new york",
		"AZaz09":       "azaz09",
		"@[`{~ !":      "@[`{~ !",
		"\xc0\xc1Z":    "\xc0\xc1z",
		"\u00c9\u0130": "\u00c9\u0130",
	} {
		if got := Fold(s); got != want {
			t.Errorf("Fold(%q) = %q, want %q", s, got, want)
		}
	}
}

func TestWords(t *testing.T) {
	for text, want := range map[string][]string{
		"":                         nil,
		" ":                        nil,
		"--~":                      nil,
		"a":                        {"a"},
		"the cat":                  {"the", "cat"},
		" the  cat-sat. ":          {"the", "cat", "sat"},
		"a a a":                    {"a", "a", "a"},
		"4you 2":                   {"4you", "2"},
		"it's":                     {"it", "s"},
		"`a{z/0:9@a[z":             {"a", "z", "0", "9", "a", "z"},
		"a\x80b\u00e9c\u0161d\x00": {"a", "b", "c", "d"},
		strings.Repeat("x", 24):    {strings.Repeat("x", 24)},
		strings.Repeat("x ", 12):   strings.Fields(strings.Repeat("x ", 12)),
	} {
		if got := Words(text); !slices.Equal(got, want) {
			t.Errorf("words of %q: %q, want %q", text, got, want)
		}
	}
}

// TestWordsOfEveryByte: those that are of no word part words.
func TestWordsOfEveryByte(t *testing.T) {
	for b := range 256 {
		s := string([]byte{byte(b)})
		want := []string{"a", "z"}
		if strings.Contains("abcdefghijklmnopqrstuvwxyz0123456789", s) {
			want = []string{"a" + s + "z"}
		}
		if got := Words("a" + s + "z"); !slices.Equal(got, want) {
			t.Errorf("words around the byte %d: %q", b, got)
		}
	}
}

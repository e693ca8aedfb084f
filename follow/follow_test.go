package follow

import (
	"math/big"
	"slices"
	"strings"
	"testing"
)

// counted makes counts of texts, their words parted by blanks.
func counted(t *testing.T, texts ...string) *Counts {
	t.Helper()
	c := None()
	for _, text := range texts {
		if !c.Add(strings.Fields(text)) {
			t.Fatalf("no room for %q", text)
		}
	}
	return &c
}

func comes(t *testing.T, c *Counts, behind string, most int, wanted ...string) {
	t.Helper()
	if got := c.Next(strings.Fields(behind), most); !slices.Equal(got, wanted) {
		t.Errorf("behind %q: %q, want %q", behind, got, wanted)
	}
}

// TestEachRunIsCounted: the runs without a word, with one, two and three; none
// goes from one text into the next.
func TestEachRunIsCounted(t *testing.T) {
	c := counted(t, "a b a b", "b", "", "a b c")
	wanted := map[run]uint64{
		{}:              8,
		{"a"}:           3,
		{"b"}:           4,
		{"c"}:           1,
		{"a", "b"}:      3,
		{"b", "a"}:      1,
		{"b", "c"}:      1,
		{"a", "b", "a"}: 1,
		{"b", "a", "b"}: 1,
		{"a", "b", "c"}: 1,
	}
	if len(c.counted) != len(wanted) {
		t.Errorf("%d runs, want %d", len(c.counted), len(wanted))
	}
	for r, n := range wanted {
		if c.counted[r] != n {
			t.Errorf("%q: %d, want %d", r, c.counted[r], n)
		}
	}
	if !slices.Equal(c.known, []string{"a", "b", "c"}) {
		t.Errorf("known: %q", c.known)
	}
}

func TestOneWordManyTimes(t *testing.T) {
	c := counted(t, "a a a", "a a", "a")
	for r, n := range map[run]uint64{{}: 6, {"a"}: 6, {"a", "a"}: 3, {"a", "a", "a"}: 1} {
		if c.counted[r] != n {
			t.Errorf("%q: %d, want %d", r, c.counted[r], n)
		}
	}
}

// TestWordsArePieces: runs whose words, laid together, are the same bytes are
// different runs.
func TestWordsArePieces(t *testing.T) {
	c := counted(t, "ab c", "a bc")
	comes(t, c, "ab", 1, "c")
	comes(t, c, "a", 1, "bc")
	comes(t, c, "abc", 4, "a", "ab", "bc", "c")
}

func TestScore(t *testing.T) {
	c := counted(t, "u v w", "u v", "x v w", "v x", "w")
	for _, ask := range []struct {
		behind, word string
		wanted       score
	}{
		{"", "v", score{4 * 4, 11}},
		{"", "x", score{4 * 2, 11}},
		{"v", "w", score{10 * 2, 4}},
		{"v", "x", score{10 * 1, 4}},
		{"v", "u", score{4 * 2, 11}},
		{"u v", "w", score{25 * 1, 2}},
		{"x v", "w", score{25 * 1, 1}},
		{"u v", "x", score{10 * 1, 4}},
		{"u v", "v", score{4 * 4, 11}},
		{"none v", "w", score{10 * 2, 4}},
		{"u none", "w", score{4 * 3, 11}},
		{"none none", "w", score{4 * 3, 11}},
	} {
		if got := c.score(strings.Fields(ask.behind), ask.word); got != ask.wanted {
			t.Errorf("%q behind %q: %v, want %v", ask.word, ask.behind, got, ask.wanted)
		}
	}
}

// TestNextAsksTheLastTwo: what is ahead of them counts for nothing.
func TestNextAsksTheLastTwo(t *testing.T) {
	c := counted(t, "u v w", "v x", "v x", "v x")
	for _, ahead := range []string{"", "w ", "v v ", "u v w ", "x none u "} {
		comes(t, c, ahead+"u v", 2, "w", "x")
	}
	comes(t, c, "u v u", 1, "v")
}

func TestMost(t *testing.T) {
	c := counted(t)
	comes(t, c, "", 20)
	comes(t, c, "a b", 1)
	c = counted(t, "c b a")
	comes(t, c, "", 1, "a")
	comes(t, c, "", 2, "a", "b")
	comes(t, c, "", 3, "a", "b", "c")
	comes(t, c, "", 20, "a", "b", "c")
	comes(t, c, "c", 2, "b", "a")
}

func TestTooManyWords(t *testing.T) {
	c := None()
	for i := range MaxWords - 1 {
		if !c.Add([]string{string([]byte{byte('0' + i)})}) {
			t.Fatalf("no room for the word %d", i)
		}
	}
	for _, refused := range []string{"new newer", "0 0 new 0 0 newer", "new new newer"} {
		if c.Add(strings.Fields(refused)) {
			t.Errorf("%q found room", refused)
		}
	}
	if len(c.known) != MaxWords-1 || len(c.counted) != MaxWords || c.counted[run{}] != MaxWords-1 {
		t.Errorf("refused words were counted: %v", c)
	}
	if !c.Add([]string{"new", "0", "new"}) {
		t.Error("no room for the last one")
	}
	if c.Add([]string{"newer"}) || c.Add([]string{"0", "newer", "new"}) {
		t.Error("one more found room")
	}
	if !c.Add([]string{"new", "0", "1"}) || !c.Add(nil) {
		t.Error("no room for known words")
	}
	comes(t, &c, "", 3, "0", "new", "1")
}

// TestGreatCounts: where products of 64 bits would wrap round, and quotients of
// 53 bits would be the same.
func TestGreatCounts(t *testing.T) {
	const great = 1 << 57
	for _, c := range []struct {
		a, b   score
		wanted int
	}{
		{score{great, great + 1}, score{great + 1, great + 2}, -1},
		{score{great + 1, great}, score{great + 2, great + 1}, 1},
		{score{great, great}, score{1, 1}, 0},
		{score{1, great}, score{great, 1}, -1},
		{score{great, 3 * great}, score{2 * great, 5 * great}, -1},
		{score{great, 2}, score{great + 1, 2}, -1},
		{score{3, great}, score{4, great}, -1},
		{score{3 * great, 4 * great}, score{6, 8}, 0},
	} {
		if got := c.a.compare(c.b); got != c.wanted {
			t.Errorf("%v against %v: %d", c.a, c.b, got)
		}
		if got := c.b.compare(c.a); got != -c.wanted {
			t.Errorf("%v against %v: %d", c.b, c.a, got)
		}
	}
	grown := Counts{
		counted: map[run]uint64{{}: 3*great + 1, {"a"}: great, {"b"}: great + 1, {"c"}: great},
		known:   []string{"a", "b", "c"},
	}
	comes(t, &grown, "", 3, "b", "a", "c")
}

// TestScoresAreExact: all small ones of all kinds, against fractions that are
// made as the document has them.
func TestScoresAreExact(t *testing.T) {
	worth := []*big.Rat{big.NewRat(16, 100), big.NewRat(4, 10), big.NewRat(1, 1)}
	type pair struct {
		score score
		exact *big.Rat
	}
	var pairs []pair
	for kind, weight := range weights {
		for whole := int64(1); whole <= 12; whole++ {
			for part := int64(1); part <= whole; part++ {
				exact := new(big.Rat).Mul(worth[kind], big.NewRat(part, whole))
				pairs = append(pairs, pair{score{uint64(part) * weight, uint64(whole)}, exact})
			}
		}
	}
	for _, a := range pairs {
		for _, b := range pairs {
			if got, wanted := a.score.compare(b.score), a.exact.Cmp(b.exact); got != wanted {
				t.Fatalf("%v against %v: %d, want %d", a.exact, b.exact, got, wanted)
			}
		}
	}
}

// TestListsAreApart: a list that came out, and one that went in, may be written
// over.
func TestListsAreApart(t *testing.T) {
	c := None()
	in := []string{"a", "b", "c"}
	c.Add(in)
	clear(in)
	out := c.Next(nil, 3)
	out = out[:cap(out)]
	for i := range out {
		out[i] = "mine"
	}
	comes(t, &c, "", 20, "a", "b", "c")
	comes(t, &c, "a b", 1, "c")
}

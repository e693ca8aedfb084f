package hint_test

import (
	"math"
	"slices"
	"strings"
	"testing"

	"hint/hint"
)

func observe(t *testing.T, e *hint.Engine, texts ...string) {
	t.Helper()
	for _, text := range texts {
		want(t, "Observe "+text, e.Observe(text), hint.OK)
	}
}

func observeOften(t *testing.T, e *hint.Engine, times int, text string) {
	t.Helper()
	for range times {
		observe(t, e, text)
	}
}

func suggests(t *testing.T, e *hint.Engine, text string, most int, wanted ...string) {
	t.Helper()
	if got, err := e.Suggest(text, most); !slices.Equal(got, wanted) || err != hint.OK {
		t.Errorf("Suggest(%q, %d) = %q, %d, want %q", text, most, got, err, wanted)
	}
}

// suggestsNone wants a nil list beside the error.
func suggestsNone(t *testing.T, e *hint.Engine, text string, most int, wanted hint.Errno) {
	t.Helper()
	if got, err := e.Suggest(text, most); got != nil || err != wanted {
		t.Errorf("Suggest(%.40q, %d) = %q, %d, want %d", text, most, got, err, wanted)
	}
}

// TestExamplesOfSuggest: as the document has them.
func TestExamplesOfSuggest(t *testing.T) {
	e := hint.New()
	observe(t, e, "the cat sat", "the cat ran", "a dog")
	suggests(t, e, "the cat", 3, "ran", "sat", "cat")
	suggests(t, e, "the cat", 4, "ran", "sat", "cat", "the")
	suggests(t, e, "cat", 2, "ran", "sat")
	suggests(t, e, "", 1, "cat")
}

func TestP7NothingObserved(t *testing.T) {
	e := hint.New()
	for _, text := range []string{"", " ", "a", "a b", "a b c", strings.Repeat("a", 24)} {
		suggests(t, e, text, 1)
		suggests(t, e, text, 20)
	}
	observe(t, e, " ", "--", "~", strings.Repeat("!", 24))
	suggests(t, e, "", 20)
	suggests(t, e, "a b", 20)
}

// TestP7WordsOfATextObserved: with none, one, two and more.
func TestP7WordsOfATextObserved(t *testing.T) {
	e := hint.New()
	observe(t, e, "c")
	suggests(t, e, "", 20, "c")
	suggests(t, e, "c", 20, "c")
	observe(t, e, "b a")
	suggests(t, e, "", 20, "a", "b", "c")
	suggests(t, e, "b", 20, "a", "b", "c")
	suggests(t, e, "a", 20, "a", "b", "c")
	observe(t, e, "- c -", "??")
	suggests(t, e, "", 20, "c", "a", "b")
	suggests(t, e, "b", 20, "a", "c", "b")
	observe(t, e, "b c a b")
	suggests(t, e, "b c", 20, "a", "b", "c")
	suggests(t, e, "c", 20, "a", "b", "c")
}

// TestP7NothingFollowsFromTextToText: the last word of one is not followed by
// the first one of the next, nor are words that stand one apart.
func TestP7NothingFollowsFromTextToText(t *testing.T) {
	e := hint.New()
	observe(t, e, "z", "y", "z", "y")
	suggests(t, e, "z", 2, "y", "z")
	observe(t, e, "z")
	suggests(t, e, "z", 2, "z", "y")
	suggests(t, e, "y", 2, "z", "y")
	apart := hint.New()
	observe(t, apart, "a b c", "a", "a")
	suggests(t, apart, "a", 3, "b", "a", "c")
	suggests(t, apart, "c", 3, "a", "b", "c")
	suggests(t, apart, "x b", 3, "c", "a", "b")
}

// TestP7TheWordsAhead: what is asked behind has no words, one, two or more,
// which were observed or were not.
func TestP7TheWordsAhead(t *testing.T) {
	e := hint.New()
	observe(t, e, "u v w", "v x", "v x", "y", "y", "y", "y", "y", "y")
	inSeldomOrder := []string{"y", "v", "x", "u", "w"}
	for _, text := range []string{"", " ", "~", "never", "never never", "u never", "v never", "u v never", "x", "y", "w"} {
		suggests(t, e, text, 20, inSeldomOrder...)
	}
	// x has 4/10 of 2/3, w 4/10 of 1/3.
	for _, text := range []string{"v", "never v", "x v", "v v", "u never v", "u-v v", " ..v"} {
		suggests(t, e, text, 20, "x", "w", "y", "v", "u")
	}
	// w has 1/1.
	for _, text := range []string{"u v", "never u v", "v u v", "u v u v", "w  u--v!", "U V"} {
		suggests(t, e, text, 20, "w", "x", "y", "v", "u")
	}
	for _, text := range []string{"u", "never u", "v u", "u u"} {
		suggests(t, e, text, 20, "v", "y", "x", "u", "w")
	}
}

func TestP7GreatLettersAndSigns(t *testing.T) {
	e := hint.New()
	observe(t, e, "The CAT, sat!", "tHe-cAt rAN", "4You 2")
	suggests(t, e, "", 20, "cat", "the", "2", "4you", "ran", "sat")
	suggests(t, e, "THE;cat", 2, "ran", "sat")
	suggests(t, e, "~~the [CAT]", 2, "ran", "sat")
	suggests(t, e, "4YOU", 1, "2")
	suggests(t, e, "4 you", 1, "cat")
	suggests(t, e, "th", 1, "cat")
}

// TestP7SignsNextToLetters: the bytes beside those of words part words.
func TestP7SignsNextToLetters(t *testing.T) {
	e := hint.New()
	for b := 32; b <= 126; b++ {
		sign := string([]byte{byte(b)})
		if strings.Contains("abcdefghijklmnopqrstuvwxyz0123456789", strings.ToLower(sign)) {
			continue
		}
		observe(t, e, "x"+sign+"y", sign+"z"+sign)
	}
	suggests(t, e, "", 20, "x", "y", "z")
	suggests(t, e, "x", 1, "y")
}

// TestP7TheSameWordInARow: runs of it lie one over the other.
func TestP7TheSameWordInARow(t *testing.T) {
	e := hint.New()
	observe(t, e, "b b", "a")
	// b has 4/10 of 1/2.
	suggests(t, e, "b", 2, "b", "a")
	suggests(t, e, "b b", 2, "b", "a")
	suggests(t, e, "a", 2, "b", "a")
	three := hint.New()
	observe(t, three, "b b b", "b b a", "b b a")
	// c(b b) is 4: a has 2/4, b 1/4.
	suggests(t, three, "b b", 2, "a", "b")
	// c(b) is 7: b has 4/10 of 4/7, a of 2/7.
	suggests(t, three, "b", 2, "b", "a")
	suggests(t, three, "x b", 2, "b", "a")
	observe(t, three, "b b b b")
	// c(b b) is 7: b has 3/7, a 2/7.
	suggests(t, three, "b b", 2, "b", "a")
}

// TestP7ScoresAreHeldAgainstOneAnother: each two kinds, where the one is just
// less, as great (which quotients of floats would not tell), and just more.
func TestP7ScoresAreHeldAgainstOneAnother(t *testing.T) {
	threeAndTwo := hint.New()
	observe(t, threeAndTwo, "u v w", "u v", "u v")
	observeOften(t, threeAndTwo, 14, "v x")
	// w has 1/3, x 4/10 of 14/17, then of 15/18, which is 1/3, then of 16/19.
	suggests(t, threeAndTwo, "u v", 2, "w", "x")
	observe(t, threeAndTwo, "v x")
	suggests(t, threeAndTwo, "u v", 2, "w", "x")
	observe(t, threeAndTwo, "v x")
	suggests(t, threeAndTwo, "u v", 2, "x", "w")

	twoAndOne := hint.New()
	observe(t, twoAndOne, "v w", "v", "v", "v", "v")
	observeOften(t, twoAndOne, 5, "a")
	// w has 4/10 of 1/5, a 16/100 of 5/11, then of 6/12, which is as much.
	suggests(t, twoAndOne, "v", 3, "w", "a", "v")
	observe(t, twoAndOne, "a")
	suggests(t, twoAndOne, "v", 3, "a", "w", "v")
	suggests(t, twoAndOne, "never v", 3, "a", "w", "v")

	threeAndOne := hint.New()
	observe(t, threeAndOne, "u v w")
	observeOften(t, threeAndOne, 6, "u v")
	observeOften(t, threeAndOne, 125, "x")
	// w has 1/7, x 16/100 of 125/140, which is as much, then of 126/141.
	suggests(t, threeAndOne, "u v", 2, "w", "x")
	observe(t, threeAndOne, "x")
	suggests(t, threeAndOne, "u v", 2, "x", "w")
}

// TestP7KindsOfTheirOwn: two words of each kind, one behind the other.
func TestP7KindsOfTheirOwn(t *testing.T) {
	e := hint.New()
	observe(t, e, "u v w", "u v w", "u v k", "v x", "v x", "v l", "z", "z", "z")
	// c(u v) is 3: w 2/3, k 1/3; c(v) is 6: x 4/10 of 2/6, l of 1/6; N is 18: v
	// 16/100 of 6/18, u and z of 3/18.
	suggests(t, e, "u v", 20, "w", "k", "x", "l", "v", "u", "z")
	// k and w are asked behind v alone: 4/10 of 1/6 and of 2/6.
	suggests(t, e, "v", 20, "w", "x", "k", "l", "v", "u", "z")
	suggests(t, e, "z", 20, "v", "u", "z", "w", "x", "k", "l")
}

// TestP7OfAsGreatOnesByBytes: digits first, the beginning of another one ahead
// of it, whatever was observed first.
func TestP7OfAsGreatOnesByBytes(t *testing.T) {
	e := hint.New()
	observe(t, e, "zz z ab", "b aa a", "0 9 10 1", "Aaa B1 B")
	observe(t, e, "zz")
	suggests(t, e, "", 20, "b", "zz", "0", "1", "10", "9", "a", "aa", "aaa", "ab", "b1", "z")
}

func TestP7Most(t *testing.T) {
	e := hint.New()
	var words []string
	for i := range 25 {
		words = append(words, numbered("w", i))
	}
	for i := range 25 {
		observe(t, e, words[(i*7)%25])
	}
	for most := 1; most <= 20; most++ {
		suggests(t, e, "", most, words[:most]...)
		suggests(t, e, "x w007", most, words[:most]...)
	}
	few := hint.New()
	observe(t, few, "b a c")
	suggests(t, few, "b a", 1, "c")
	suggests(t, few, "b a", 2, "c", "a")
	suggests(t, few, "b a", 3, "c", "a", "b")
	suggests(t, few, "b a", 4, "c", "a", "b")
	suggests(t, few, "b a", 20, "c", "a", "b")
}

// TestP7LongTexts: as long as may be, and one byte longer.
func TestP7LongTexts(t *testing.T) {
	e := hint.New()
	long, short := strings.Repeat("q", 24), strings.Repeat("Q", 22)+" x"
	observe(t, e, long, short, strings.Repeat("y ", 12))
	suggests(t, e, "", 20, "y", strings.ToLower(short[:22]), long, "x")
	suggests(t, e, short[:22], 1, "x")
	suggests(t, e, long, 1, "y")
	want(t, "Observe of 25 bytes", e.Observe(long+"q"), hint.ErrText)
	want(t, "Observe of 25 bytes and words", e.Observe(strings.Repeat("y ", 12)+" "), hint.ErrText)
	want(t, "Observe of very many bytes", e.Observe(strings.Repeat("a ", 1<<22)), hint.ErrText)
	suggestsNone(t, e, long+"q", 1, hint.ErrText)
	suggestsNone(t, e, strings.Repeat("y ", 12)+"y", 20, hint.ErrText)
	suggestsNone(t, e, strings.Repeat("a ", 1<<22), 20, hint.ErrText)
	suggests(t, e, "", 20, "y", strings.ToLower(short[:22]), long, "x")
}

// observedWords makes an engine that observed so many different words, each
// once and alone.
func observedWords(t *testing.T, many int) *hint.Engine {
	t.Helper()
	e := hint.New()
	for i := range many {
		observe(t, e, numbered("w", i))
	}
	return e
}

// TestP7Many: up to the limit, one above it, and known words at the limit.
func TestP7Many(t *testing.T) {
	e := observedWords(t, 58)
	want(t, "three more", e.Observe("a b c"), hint.ErrMany)
	want(t, "three more beside known ones", e.Observe("w000 a b w001 c"), hint.ErrMany)
	suggests(t, e, "", 2, "w000", "w001")
	observe(t, e, "b B-b w003 a A")
	suggests(t, e, "", 4, "b", "a", "w003", "w000")
	want(t, "one more", e.Observe("c"), hint.ErrMany)
	want(t, "one more behind known ones", e.Observe("b b a C"), hint.ErrMany)
	want(t, "one more ahead of known ones", e.Observe("c b"), hint.ErrMany)
	observe(t, e, "a B", "--", "W057")
	suggests(t, e, "", 5, "b", "a", "w003", "w057", "w000")

	alone := observedWords(t, 60)
	want(t, "the word 61", alone.Observe("w060"), hint.ErrMany)
	observe(t, alone, "w000 w059")
	suggests(t, alone, "w000", 2, "w059", "w000")

	short := observedWords(t, 59)
	observe(t, short, "a a a a a a a a a a a a")
	want(t, "the word 61 behind a twice told one", short.Observe("b"), hint.ErrMany)
}

// TestP7ARefusedObserveChangesNothing: no word of it is counted, nor are two or
// three that follow one another, and there is as much room as ahead of it.
func TestP7ARefusedObserveChangesNothing(t *testing.T) {
	e := observedWords(t, 59)
	for _, refused := range []string{"w050 w040 w030 new a", "new w020 w010 a", "w009 w009 w009 a new", "new a"} {
		want(t, "Observe "+refused, e.Observe(refused), hint.ErrMany)
	}
	for _, refused := range []string{"", "w050 w040\n", "w050 w040 w030 w020 w010 w", "\u00e9 w009"} {
		want(t, "Observe "+refused, e.Observe(refused), hint.ErrText)
	}
	var first []string
	for i := range 20 {
		first = append(first, numbered("w", i))
	}
	for _, text := range []string{"", "w050", "w050 w040", "w040 w030", "new", "new w020", "w009 w009", "w020 w010", "a"} {
		suggests(t, e, text, 20, first...)
	}
	observe(t, e, "new")
	want(t, "one more", e.Observe("a"), hint.ErrMany)
	suggests(t, e, "new", 20, append([]string{"new"}, first[:19]...)...)
}

func TestP7ErrorsOfObserve(t *testing.T) {
	for _, e := range []*hint.Engine{hint.New(), observedWords(t, 60)} {
		// Where both apply, the first one is told.
		for _, s := range []string{"", "\n", "new\n", "\x1fnew", "new\x7f", "new \u00e9", "\u212a", "\xff\xfe", "new\x00", strings.Repeat("new ", 7), strings.Repeat("x", 25), strings.Repeat("\x00", 1<<16)} {
			want(t, "Observe of no text", e.Observe(s), hint.ErrText)
		}
	}
	for b := range 256 {
		e := hint.New()
		wanted := hint.OK
		if b < 32 || b > 126 {
			wanted = hint.ErrText
		}
		want(t, "Observe of one byte", e.Observe(string([]byte{byte(b)})), wanted)
		want(t, "Observe of it behind a letter", e.Observe("a"+string([]byte{byte(b)})), wanted)
	}
}

func TestP7ErrorsOfSuggest(t *testing.T) {
	observed := hint.New()
	observe(t, observed, "a b c", "a b")
	for _, e := range []*hint.Engine{hint.New(), observed} {
		for _, most := range []int{math.MinInt, math.MinInt + 1, -1 << 32, 1<<32 + 1, -20, -1, 0, 21, 22, 256, 1 << 62, math.MaxInt} {
			for _, s := range append([]string{"a", "a b"}, wrongStrings...) {
				suggestsNone(t, e, s, most, hint.ErrArg)
			}
		}
		for b := range 256 {
			text := "a" + string([]byte{byte(b)})
			if b < 32 || b > 126 {
				suggestsNone(t, e, text, 1, hint.ErrText)
				suggestsNone(t, e, text[1:], 20, hint.ErrText)
				suggestsNone(t, e, text, 0, hint.ErrArg)
				suggestsNone(t, e, text, 21, hint.ErrArg)
			} else if _, err := e.Suggest(text, 20); err != hint.OK {
				t.Errorf("Suggest of %q: %d", text, err)
			}
		}
	}
	suggests(t, observed, "a b", 20, "c", "a", "b")
}

// TestP7SuggestChangesNothing: words that are asked behind are not observed.
func TestP7SuggestChangesNothing(t *testing.T) {
	e := observedWords(t, 59)
	for range 3 {
		suggests(t, e, "", 1, "w000")
		suggests(t, e, "new newer w050", 2, "w000", "w001")
		suggests(t, e, "w050 w040 w030", 2, "w000", "w001")
	}
	observe(t, e, "one")
	want(t, "one more", e.Observe("more"), hint.ErrMany)
}

// TestP2SuggestedListsAreTheCallers: they are written full, and nothing else
// changes.
func TestP2SuggestedListsAreTheCallers(t *testing.T) {
	e := hint.New()
	observe(t, e, "a b c", "d")
	for _, text := range []string{"", "a", "a b", "never"} {
		first, _ := e.Suggest(text, 4)
		second, _ := e.Suggest(text, 4)
		wanted := slices.Clone(second)
		first = first[:cap(first)]
		for i := range first {
			first[i] = "mine"
		}
		if !slices.Equal(second, wanted) {
			t.Errorf("behind %q another list changed: %q", text, second)
		}
		suggests(t, e, text, 20, wanted...)
	}
	observe(t, e, "a b c d")
	suggests(t, e, "b c", 20, "d", "a", "b", "c")
}

func TestP2WordsOfEnginesApart(t *testing.T) {
	a, b := hint.New(), hint.New()
	observe(t, a, "x y", "x y")
	suggests(t, b, "x", 20)
	observe(t, b, "x z")
	suggests(t, a, "x", 20, "y", "x")
	suggests(t, b, "x", 20, "z", "x")
	full := observedWords(t, 60)
	want(t, "the word 61", full.Observe("x"), hint.ErrMany)
	observe(t, a, "w")
	suggests(t, hint.New(), "", 20)
}

package hint_test

import (
	"fmt"
	"math/rand"
	"slices"
	"strings"
	"testing"

	"hint/hint"
)

// timings say whether and when Flush and Merge are called.
var timings = []func(*rand.Rand, *hint.Engine){
	func(*rand.Rand, *hint.Engine) {},
	func(_ *rand.Rand, e *hint.Engine) { e.Flush() },
	func(_ *rand.Rand, e *hint.Engine) {
		e.Flush()
		e.Merge(0)
	},
	func(_ *rand.Rand, e *hint.Engine) {
		e.Flush()
		if e.Segments() > 4 {
			e.Merge(e.Segments() - 2)
		}
	},
	func(random *rand.Rand, e *hint.Engine) {
		if random.Intn(4) == 0 {
			e.Flush()
		}
		if random.Intn(4) == 0 {
			e.Merge(random.Intn(6))
		}
	},
}

// TestP8TimingChangesNoAnswer: the same calls to engines that are flushed and
// merged at different times. There are fewer names than the buffer may have
// gone ones, so that Delete has no ErrMany to differ by.
func TestP8TimingChangesNoAnswer(t *testing.T) {
	for seed := range int64(25) {
		random := rand.New(rand.NewSource(seed))
		engines := make([]*hint.Engine, len(timings))
		for i := range engines {
			engines[i] = hint.New()
		}
		names := 3 + random.Intn(90)
		for step := range 400 {
			ask := randomAsk(random, names)
			wanted := ask(engines[0])
			for i, e := range engines {
				if i > 0 {
					if got := ask(e); got != wanted {
						t.Fatalf("seed %d, step %d, timing %d: %s, want %s", seed, step, i, got, wanted)
					}
				}
				timings[i](random, e)
			}
		}
	}
}

// randomAsk is a call that does the same to every engine, and tells the call
// and its answer.
func randomAsk(random *rand.Rand, names int) func(*hint.Engine) string {
	if random.Intn(4) == 0 {
		return randomWordAsk(random, 2+names)
	}
	return randomEntryAsk(random, names)
}

func randomEntryAsk(random *rand.Rand, names int) func(*hint.Engine) string {
	name, text, n := numbered("n", random.Intn(names)), randomText(random), random.Intn(1000001)
	query := text[:random.Intn(min(4, len(text)+1))]
	switch random.Intn(6) {
	case 0, 1, 2:
		return func(e *hint.Engine) string {
			return fmt.Sprint("Upsert ", name, e.Upsert(name, text, n%100, n%256))
		}
	case 3:
		return func(e *hint.Engine) string { return fmt.Sprint("Delete ", name, e.Delete(name)) }
	}
	return func(e *hint.Engine) string {
		list, err := e.Complete(n%4, query, n%3*(n%8), 1+n%20)
		return fmt.Sprintf("Complete %d %q %q %d", n, query, list, err)
	}
}

func randomWordAsk(random *rand.Rand, words int) func(*hint.Engine) string {
	text, most := randomWords(random, words), 1+random.Intn(20)
	if random.Intn(2) == 0 {
		return func(e *hint.Engine) string { return fmt.Sprintf("Observe %q %d", text, e.Observe(text)) }
	}
	return func(e *hint.Engine) string {
		list, err := e.Suggest(text, most)
		return fmt.Sprintf("Suggest %q %d %q %d", text, most, list, err)
	}
}

// randomUpkeep is a call on segments.
func randomUpkeep(random *rand.Rand) func(*hint.Engine) string {
	n := random.Intn(6)
	switch random.Intn(4) {
	case 0:
		return func(e *hint.Engine) string { return fmt.Sprint("Merge ", n, e.Merge(n)) }
	case 1:
		return func(e *hint.Engine) string { return fmt.Sprint("Load ", e.Load(one("l", "loaded"))) }
	case 2:
		return func(e *hint.Engine) string {
			packed, err := e.Dump(n)
			return fmt.Sprintf("Dump %d of %d %q %d", n, e.Segments(), packed, err)
		}
	}
	return func(e *hint.Engine) string { return fmt.Sprint("Flush ", e.Flush()) }
}

// TestP7WordsAndEntriesAreApart: an engine that keeps both answers like one
// that is never asked for words, and like one that never has an entry.
func TestP7WordsAndEntriesAreApart(t *testing.T) {
	for seed := range int64(25) {
		random := rand.New(rand.NewSource(seed))
		both, entries, words := hint.New(), hint.New(), hint.New()
		for step := range 600 {
			ask, alone := randomEntryAsk(random, 40), entries
			switch random.Intn(4) {
			case 0:
				ask = randomUpkeep(random)
			case 1, 2:
				ask, alone = randomWordAsk(random, 70), words
			}
			if got, wanted := ask(both), ask(alone); got != wanted {
				t.Fatalf("seed %d, step %d: %s, want %s", seed, step, got, wanted)
			}
		}
	}
}

// TestP8ManyEntries: the limit of entries holds alike, wherever they are.
func TestP8ManyEntries(t *testing.T) {
	for i, timing := range timings {
		random, e := rand.New(rand.NewSource(1)), hint.New()
		for n := range 30 {
			upsert(t, e, numbered("n", n), "x")
			timing(random, e)
		}
		if err := e.Upsert("more", "x", 0, 0); err != hint.ErrMany {
			t.Errorf("timing %d: one more = %d", i, err)
		}
		remove(t, e, "n007")
		timing(random, e)
		if err := e.Upsert("more", "x", 0, 0); err != hint.OK {
			t.Errorf("timing %d: one less and one more = %d", i, err)
		}
	}
}

// TestP8EveryTurnOfMerging: the same lines, in whichever order segments are
// merged.
func TestP8EveryTurnOfMerging(t *testing.T) {
	for turn := range 5 * 4 * 3 * 2 {
		e := hint.New()
		for i := range 6 {
			row{"same", "text " + numbered("", i), i, i}.put(t, e)
			row{numbered("n", i), strings.Repeat("x", 1+i), 10, 255}.put(t, e)
			if i > 0 {
				remove(t, e, numbered("n", i-1))
			}
			if i == 4 {
				row{"n001", "back", 3, 0}.put(t, e)
			}
			flush(t, e)
		}
		wanted := []string{"n005 10 xxxxxx", "same 5 text 005", "n001 3 back"}
		completes(t, e, 0, "", 0, 20, wanted...)
		rest := turn
		for left := 5; left > 0; left-- {
			merge(t, e, rest%left)
			rest /= left
			if got, err := e.Complete(0, "", 0, 20); !slices.Equal(got, wanted) || err != hint.OK {
				t.Fatalf("turn %d, %d left: %q, %d, want %q", turn, left, got, err, wanted)
			}
		}
	}
}

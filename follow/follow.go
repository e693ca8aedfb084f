// Package follow counts which words follow which, and tells which come next.
package follow

import (
	"cmp"
	"math/bits"
	"slices"
	"strings"
)

// MaxWords is how many different words may be counted.
const MaxWords = 60

// longest is the most words of a run.
const longest = 3

// run is up to three words that follow one another; what is left of it behind
// them is empty, as no word is.
type run [longest]string

func runOf(words []string) run {
	var r run
	copy(r[:], words)
	return r
}

// Counts is how often words were met, and how often they followed one another.
type Counts struct {
	counted map[run]uint64 // the run without words comes with each word
	known   []string       // the different words
}

// None answers counts of no words.
func None() Counts {
	return Counts{counted: map[run]uint64{}}
}

// Add counts the words of a text. It is false, and nothing is counted, if
// there would be too many different ones.
func (c *Counts) Add(words []string) bool {
	unknown := c.unknown(words)
	if len(c.known)+len(unknown) > MaxWords {
		return false
	}
	c.known = append(c.known, unknown...)
	for end := 1; end <= len(words); end++ {
		for begin := max(0, end-longest); begin <= end; begin++ {
			c.counted[runOf(words[begin:end])]++
		}
	}
	return true
}

// unknown answers the different ones of these words that were never counted.
func (c *Counts) unknown(words []string) []string {
	var unknown []string
	for _, word := range words {
		if c.counted[run{word}] == 0 && !slices.Contains(unknown, word) {
			unknown = append(unknown, word)
		}
	}
	return unknown
}

// Next answers the words, at most that many, that may come behind those ahead,
// the greatest score first.
func (c *Counts) Next(ahead []string, most int) []string {
	ahead = ahead[max(0, len(ahead)-longest+1):]
	scored := make([]candidate, 0, len(c.known))
	for _, word := range c.known {
		scored = append(scored, candidate{word, c.score(ahead, word)})
	}
	slices.SortFunc(scored, compare)
	var next []string
	for _, s := range scored[:min(most, len(scored))] {
		next = append(next, s.word)
	}
	return next
}

// score answers that of a known word, at most two words being ahead. Where it
// never came behind all of them, the last one is asked, and then none: behind
// none it came as often as it was counted.
func (c *Counts) score(ahead []string, word string) score {
	without := runOf(ahead)
	with := without
	with[len(ahead)] = word
	if c.counted[with] == 0 && len(ahead) > 0 {
		return c.score(ahead[1:], word)
	}
	return score{c.counted[with] * weights[len(ahead)], c.counted[without]}
}

// weights are what a share is worth behind no word, one and two: 16/100, 4/10
// and 1, times 25, which makes them whole and changes no order.
var weights = [longest]uint64{4, 10, 25}

// score is a part of a whole. It is not divided, so that it stays exact.
type score struct {
	part, whole uint64
}

// compare multiplies crosswise, with twice the bits, so that counts may grow
// great.
func (s score) compare(other score) int {
	high, low := bits.Mul64(s.part, other.whole)
	otherHigh, otherLow := bits.Mul64(other.part, s.whole)
	return cmp.Or(cmp.Compare(high, otherHigh), cmp.Compare(low, otherLow))
}

type candidate struct {
	word  string
	score score
}

// compare puts the greater score first, and of as great ones the lesser word.
func compare(a, b candidate) int {
	return cmp.Or(b.score.compare(a.score), strings.Compare(a.word, b.word))
}

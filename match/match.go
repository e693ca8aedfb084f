// Package match tells whether what was typed fits a text.
package match

import (
	"strings"

	"hint/texts"
)

// Mode says how a query may fit a text.
type Mode int

// The modes, by the numbers that a caller knows them by.
const (
	Whole      Mode = 0 // the text begins with the query
	Word       Mode = 1 // it does from the beginning of a word on
	OneChange  Mode = 2 // it begins with the query but for one change
	TwoChanges Mode = 3 // but for two
)

// Fits tells whether the query fits the text. Both are folded.
func Fits(mode Mode, query string, text string) bool {
	switch mode {
	case Whole:
		return strings.HasPrefix(text, query)
	case Word:
		return fitsWord(query, text)
	case OneChange:
		return fitsChanged(query, text, 1)
	case TwoChanges:
		return fitsChanged(query, text, 2)
	}
	return false
}

func fitsWord(query string, text string) bool {
	for at := range len(text) {
		if texts.WordBegins(text, at) && strings.HasPrefix(text[at:], query) {
			return true
		}
	}
	return false
}

// fitsChanged tells whether some beginning of the text is the query with at
// most that many changes.
func fitsChanged(query string, text string, most int) bool {
	changes := changesFromNothing(query)
	for at := range len(text) {
		if changes[len(query)] <= most {
			return true
		}
		changes = changesBehind(changes, query, text[at])
	}
	return changes[len(query)] <= most
}

// changesFromNothing answers, for each beginning of the query, the shortest
// first, how few changes make it of no bytes.
func changesFromNothing(query string) []int {
	changes := make([]int, len(query)+1)
	for length := range changes {
		changes[length] = length
	}
	return changes
}

// changesBehind answers the same for a beginning of a text, from what holds
// for the beginning that lacks its last byte.
func changesBehind(shorter []int, query string, last byte) []int {
	changes := make([]int, len(query)+1)
	changes[0] = shorter[0] + 1
	for i := range len(query) {
		replaced := shorter[i]
		if query[i] != last {
			replaced++
		}
		changes[i+1] = min(replaced, shorter[i+1]+1, changes[i]+1)
	}
	return changes
}

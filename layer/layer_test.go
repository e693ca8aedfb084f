package layer

import (
	"maps"
	"testing"
)

// TestCompare: each comes ahead of all that follow.
func TestCompare(t *testing.T) {
	ordered := []Entry{
		{"z", "z", 1000000, 0},
		{"b", "a", 2, 0},
		{"a", "~", 2, 0},
		{"z", " ", 1, 0},
		{"d", "A", 1, 0},
		{"c", "A ", 1, 0},
		{"0", "AB", 1, 0},
		{"1", "ab", 1, 0},
		{"1a", "aB", 1, 0},
		{"2", "Ab", 1, 0},
		{"b", "aba", 1, 0},
		{"a", "Az", 1, 0},
		{"9", "a~", 1, 0},
		{"8", "B", 1, 0},
		{"7", "~", 1, 0},
		{"0", " ", 0, 0},
	}
	for i, a := range ordered {
		if Compare(a, a) != 0 {
			t.Errorf("%v is not where it is", a)
		}
		for _, b := range ordered[i+1:] {
			if Compare(a, b) >= 0 || Compare(b, a) <= 0 {
				t.Errorf("%v comes ahead of %v", a, b)
			}
		}
	}
}

func TestPutAndTakeAway(t *testing.T) {
	l := Layer{}
	l.Put(Entry{"a", "one", 1, 2})
	if l["a"] != (Saying{Entry: Entry{"a", "one", 1, 2}}) || l.Gone() != 0 {
		t.Errorf("after Put: %v", l)
	}
	l.Put(Entry{"a", "two", 3, 4})
	if len(l) != 1 || l["a"].Entry.Text != "two" {
		t.Errorf("after Put of the same name: %v", l)
	}
	l.TakeAway("a")
	l.TakeAway("b")
	if len(l) != 2 || l["a"] != (Saying{Gone: true}) || l.Gone() != 2 {
		t.Errorf("after TakeAway: %v", l)
	}
	l.Put(Entry{"a", "three", 5, 6})
	if len(l) != 2 || l["a"].Gone || l.Gone() != 1 {
		t.Errorf("Put of a gone name: %v", l)
	}
}

func TestWithoutGone(t *testing.T) {
	l := Layer{}
	l.Put(Entry{Name: "a"})
	l.TakeAway("b")
	before := maps.Clone(l)
	if got := l.WithoutGone(); !maps.Equal(got, Layer{"a": {Entry: Entry{Name: "a"}}}) {
		t.Errorf("WithoutGone: %v", got)
	}
	if !maps.Equal(l, before) {
		t.Errorf("WithoutGone changed its layer: %v", l)
	}
}

func TestMerge(t *testing.T) {
	older, newer := Layer{}, Layer{}
	older.Put(Entry{"kept", "k", 1, 0})
	older.Put(Entry{"changed", "old", 1, 0})
	older.Put(Entry{"deleted", "d", 1, 0})
	older.TakeAway("back")
	older.TakeAway("gone")
	newer.Put(Entry{"changed", "new", 2, 0})
	newer.TakeAway("deleted")
	newer.Put(Entry{"back", "b", 2, 0})
	newer.TakeAway("gone2")
	olderBefore, newerBefore := maps.Clone(older), maps.Clone(newer)
	want := Layer{
		"kept":    {Entry: Entry{"kept", "k", 1, 0}},
		"changed": {Entry: Entry{"changed", "new", 2, 0}},
		"deleted": {Gone: true},
		"back":    {Entry: Entry{"back", "b", 2, 0}},
		"gone":    {Gone: true},
		"gone2":   {Gone: true},
	}
	if got := Merge(older, newer); !maps.Equal(got, want) {
		t.Errorf("Merge: %v, want %v", got, want)
	}
	if !maps.Equal(older, olderBefore) || !maps.Equal(newer, newerBefore) {
		t.Errorf("Merge changed a layer: %v, %v", older, newer)
	}
	third := Layer{}
	third.TakeAway("kept")
	want["kept"] = Saying{Gone: true}
	if got := Merge(older, newer, third); !maps.Equal(got, want) {
		t.Errorf("Merge of three: %v, want %v", got, want)
	}
	if got := Merge(); got == nil || len(got) != 0 {
		t.Errorf("Merge of none: %v", got)
	}
}

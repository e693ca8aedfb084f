package hint_test

import (
	"strings"
	"testing"

	"hint/hint"
)

// node is a node of a tree as a test wants it packed, right or wrong.
type node struct {
	label    string
	greatest int
	entries  []string // packed ones
	children []node
}

func (n node) packed() string {
	out := sized(n.label) + three(n.greatest) + counted(n.entries...)
	var children []string
	for _, child := range n.children {
		children = append(children, child.packed())
	}
	return out + counted(children...)
}

// counted puts the number of the pieces ahead of them.
func counted(pieces ...string) string {
	return string([]byte{byte(len(pieces))}) + strings.Join(pieces, "")
}

func entry(name, text string, weight, tags int) string {
	return sized(name) + sized(text) + three(weight) + string([]byte{byte(tags)})
}

// leaf is a node with one entry of weight 5.
func leaf(label, name, text string) node {
	return node{label: label, greatest: 5, entries: []string{entry(name, text, 5, 0)}}
}

// tree is a packed segment without gone names, whose greatest weight is 5.
func tree(children ...node) string {
	return "\x00" + node{greatest: 5, children: children}.packed()
}

// goneAnd puts gone names ahead of a segment that has none.
func goneAnd(segment string, names ...string) string {
	var pieces []string
	for _, name := range names {
		pieces = append(pieces, sized(name))
	}
	return counted(pieces...) + segment[1:]
}

func load(t *testing.T, e *hint.Engine, packed string) {
	t.Helper()
	if err := e.Load(packed); err != hint.OK {
		t.Errorf("Load(%.80q) = %d", packed, err)
	}
}

// numberedEntries is the packed segment of n entries of one text, named from
// the number first on.
func numberedEntries(first, n int) string {
	var entries []string
	for i := range n {
		entries = append(entries, entry(numbered("n", first+i), "x", 5, 0))
	}
	return tree(node{label: "x", greatest: 5, entries: entries})
}

func numberedNames(n int) []string {
	var names []string
	for i := range n {
		names = append(names, numbered("g", i))
	}
	return names
}

// rich is a packed segment with something of all kinds.
var rich = "\x02\x01y\x02zz" + node{greatest: 1000000, children: []node{
	{label: " ", greatest: 3, entries: []string{entry("s", " ", 3, 255)}},
	{label: "ne", greatest: 1000000, children: []node{
		{label: "w", greatest: 70, entries: []string{entry("a", "NEW", 0, 0), entry("b", "new", 70, 1)},
			children: []node{leaf(" york", "c", "New York")}},
		{label: "xt", greatest: 1000000, entries: []string{entry("0", "neXt", 1000000, 7)}},
	}},
	{label: "~", entries: []string{entry("abcdefgh", "~", 0, 0)}},
}}.packed()

// sound are packed segments that must be taken; each is alone in an engine.
var sound = map[string]string{
	"one entry":                        one("a", "x"),
	"gone names alone":                 gone("a", "ab", "b"),
	"all kinds":                        rich,
	"a name of 8 bytes":                tree(leaf("x", "abcdefgh", "x")),
	"a gone name of 8 bytes":           gone("zzzzzzzz"),
	"a text of 24 bytes":               tree(leaf(strings.Repeat("x", 24), "a", strings.Repeat("X", 24))),
	"bytes 32 and 126":                 tree(leaf(" ~", "a", " ~")),
	"bytes beside the letters":         tree(leaf("@[`{", "a", "@[`{")),
	"the greatest weight and all tags": "\x00" + node{greatest: 1000000, children: []node{{label: "x", greatest: 1000000, entries: []string{entry("a", "x", 1000000, 255)}}}}.packed(),
	"30 entries":                       numberedEntries(0, 30),
	"100 gone names":                   gone(numberedNames(100)...),
	"30 entries and 100 gone names":    goneAnd(numberedEntries(0, 30), numberedNames(100)...),
	"nodes nested 24 deep":             nested(24),
}

// nested has a text at each node down to that depth.
func nested(depth int) string {
	var below []node
	for n := depth; n > 0; n-- {
		below = []node{{label: "x", greatest: 5, entries: []string{entry(numbered("n", n), strings.Repeat("x", n), 5, 0)}, children: below}}
	}
	return tree(below...)
}

// TestP5LoadOfWhatIsSound: it is told again byte by byte, in an engine without
// segments and behind another one.
func TestP5LoadOfWhatIsSound(t *testing.T) {
	for what, packed := range sound {
		t.Run(what, func(t *testing.T) {
			e := hint.New()
			load(t, e, packed)
			dumps(t, e, packed)
			b := hint.New()
			load(t, b, gone("first"))
			load(t, b, packed)
			dumps(t, b, gone("first"), packed)
		})
	}
}

// TestP5LoadOfDumps: what engines told of their segments is taken by others.
func TestP5LoadOfDumps(t *testing.T) {
	from, to := full(t), hint.New()
	var told []string
	for i := range from.Segments() {
		packed, _ := from.Dump(i)
		told = append(told, packed)
		load(t, to, packed)
	}
	dumps(t, to, told...)
	last := hint.New()
	load(t, last, told[5])
	dumps(t, last, told[5])
}

// damaged are strings that are no packed segments, each by one fault.
var damaged = map[string]string{
	"nothing":                      "",
	"one byte":                     "\x00",
	"one letter":                   "x",
	"says nothing":                 "\x00" + emptyRoot,
	"zeros":                        strings.Repeat("\x00", 8),
	"as many zeros as may be":      strings.Repeat("\x00", 4000),
	"too many zeros":               strings.Repeat("\x00", 4001),
	"very many zeros":              strings.Repeat("\x00", 1<<23),
	"very many ones":               strings.Repeat("\x01", 1<<23),
	"as many 255s as may be":       strings.Repeat("\xff", 4000),
	"sound, and zeros behind it":   rich + strings.Repeat("\x00", 4001-len(rich)),
	"twice":                        rich + rich,
	"no gone names told":           rich[1:],
	"a gone name too few told":     "\x01\x01y\x02zz" + emptyRoot,
	"a gone name too many told":    "\x03\x01y\x02zz" + emptyRoot,
	"gone names not in order":      gone("b", "a"),
	"gone names not in order, 2":   gone("ab", "a"),
	"a gone name twice":            gone("a", "a"),
	"a gone name twice, 2":         gone("a", "b", "a"),
	"an empty gone name":           gone(""),
	"a gone name of 9 bytes":       gone("abcdefghi"),
	"a gone name of great letters": gone("A"),
	"a gone name with a blank":     gone("a b"),
	"a gone name of a byte 255":    gone("\xff"),
	"101 gone names":               gone(numberedNames(101)...),
	"255 gone names":               gone(numberedNames(255)...),
	"31 entries":                   numberedEntries(0, 31),
	"31 entries in two nodes":      "\x00" + node{greatest: 5, children: []node{leaf("a", "zz", "a"), {label: "x", greatest: 5, entries: entries30()}}}.packed(),
	"an entry of a gone name":      goneAnd(tree(leaf("x", "a", "x")), "a"),
	"a name at two nodes":          tree(leaf("x", "a", "x"), leaf("y", "a", "y")),
	"a name twice at a node":       tree(node{label: "x", greatest: 5, entries: []string{entry("a", "x", 5, 0), entry("a", "X", 5, 0)}}),
	"entries not in order":         tree(node{label: "x", greatest: 5, entries: []string{entry("b", "x", 5, 0), entry("a", "X", 5, 0)}}),
	"entries by weights":           tree(node{label: "x", greatest: 5, entries: []string{entry("b", "x", 5, 0), entry("a", "X", 4, 0)}}),
	"an empty name":                tree(leaf("x", "", "x")),
	"a name of 9 bytes":            tree(leaf("x", "abcdefghi", "x")),
	"a name of great letters":      tree(leaf("x", "A", "x")),
	"an entry at the root":         "\x00" + node{greatest: 5, entries: []string{entry("a", "", 5, 0)}}.packed(),
	"a text at the root":           "\x00" + node{greatest: 5, entries: []string{entry("a", "x", 5, 0)}}.packed(),
	"a text of 25 bytes":           tree(leaf(strings.Repeat("x", 25), "a", strings.Repeat("x", 25))),
	"a text of 255 bytes":          tree(leaf(strings.Repeat("x", 255), "a", strings.Repeat("x", 255))),
	"a text with a byte 31":        tree(leaf("x\x1f", "a", "x\x1f")),
	"a text with a byte 127":       tree(leaf("x\x7f", "a", "x\x7f")),
	"a text with a byte 255":       tree(leaf("x\xff", "a", "x\xff")),
	"a text that is too short":     tree(leaf("xy", "a", "x")),
	"a text that is too long":      tree(leaf("x", "a", "xy")),
	"another text":                 tree(leaf("xy", "a", "xz")),
	"another text below":           tree(node{label: "x", greatest: 5, entries: []string{entry("a", "x", 5, 0)}, children: []node{leaf("y", "b", "y")}}),
	"a label of great letters":     tree(leaf("X", "a", "X")),
	"a great letter below":         tree(node{label: "x", greatest: 5, entries: []string{entry("a", "x", 5, 0)}, children: []node{leaf("Y", "b", "xY")}}),
	"a root with a label":          "\x00" + node{label: "x", greatest: 5, entries: []string{entry("a", "x", 5, 0)}}.packed(),
	"a root with a label, 2":       "\x00" + node{label: "x", greatest: 5, children: []node{leaf("y", "a", "xy"), leaf("z", "b", "xz")}}.packed(),
	"an empty label":               tree(leaf("", "a", "x")),
	"an empty label below":         tree(node{label: "x", greatest: 5, entries: []string{entry("a", "x", 5, 0)}, children: []node{leaf("", "b", "x")}}),
	"an empty label with entries":  tree(node{greatest: 5, children: []node{leaf("x", "a", "x"), leaf("y", "b", "y")}}),
	"children not in order":        tree(leaf("y", "a", "y"), leaf("x", "b", "x")),
	"children with one label":      tree(leaf("x", "a", "x"), leaf("x", "b", "x")),
	"children that begin alike":    tree(leaf("xa", "a", "xa"), leaf("xb", "b", "xb")),
	"a child that begins another":  tree(leaf("x", "a", "x"), leaf("xb", "b", "xb")),
	"children below not in order":  tree(node{label: "a", greatest: 5, children: []node{leaf("y", "a", "ay"), leaf("x", "b", "ax")}}),
	"a node with one child alone":  tree(node{label: "x", greatest: 5, children: []node{leaf("y", "a", "xy")}}),
	"a node with nothing":          "\x01\x01g" + node{children: []node{{label: "x"}}}.packed(),
	"a node with nothing, beside":  tree(leaf("x", "a", "x"), node{label: "y"}),
	"a weight above the greatest":  "\x00" + node{greatest: 1000001, children: []node{{label: "x", greatest: 1000001, entries: []string{entry("a", "x", 1000001, 0)}}}}.packed(),
	"a weight of three bytes 255":  "\x00" + node{greatest: 1<<24 - 1, children: []node{{label: "x", greatest: 1<<24 - 1, entries: []string{entry("a", "x", 1<<24-1, 0)}}}}.packed(),
	"root weight too small":        "\x00" + node{greatest: 4, children: []node{leaf("x", "a", "x")}}.packed(),
	"root weight too great":        "\x00" + node{greatest: 6, children: []node{leaf("x", "a", "x")}}.packed(),
	"root weight of none":          gone("a")[:len(gone("a"))-3] + "\x01\x00\x00",
	"leaf weight too small":        tree(node{label: "x", greatest: 4, entries: []string{entry("a", "x", 5, 0)}}),
	"leaf weight too great":        "\x00" + node{greatest: 6, children: []node{{label: "x", greatest: 6, entries: []string{entry("a", "x", 5, 0)}}}}.packed(),
	"the weight of entries alone":  tree(node{label: "x", greatest: 4, entries: []string{entry("a", "x", 4, 0)}, children: []node{leaf("y", "b", "xy")}}),
	"the weight of the last child": "\x00" + node{greatest: 4, children: []node{leaf("x", "a", "x"), {label: "y", greatest: 4, entries: []string{entry("b", "y", 4, 0)}}}}.packed(),
	"nodes nested 25 deep":         nested(25),
	"empty labels nested deep":     "\x00" + strings.Repeat("\x00\x00\x00\x00\x00\x01", 666),
	"labels nested deep":           "\x00" + emptyRoot[:5] + "\x01" + strings.Repeat("\x01x\x00\x00\x00\x00\x01", 570),
	"long labels nested deep":      "\x00" + emptyRoot[:5] + "\x01" + strings.Repeat(sized(strings.Repeat("x", 255))+"\x00\x00\x00\x00\x01", 15),
	"nodes nested deep, and ended": "\x00" + strings.Repeat("\x00\x00\x00\x00\x00\x01", 665) + emptyRoot,
	"too many children told":       "\x00\x00\x00\x00\x05\x00\x02" + leaf("x", "a", "x").packed(),
	"too few children told":        "\x00\x00\x00\x00\x05\x00\x01" + leaf("x", "a", "x").packed() + leaf("y", "b", "y").packed(),
	"too many entries told":        tree(node{label: "x", greatest: 5, entries: []string{entry("a", "x", 5, 0)}})[:13] + "\x02" + entry("a", "x", 5, 0) + "\x00",
}

func entries30() []string {
	var entries []string
	for i := range 30 {
		entries = append(entries, entry(numbered("n", i), "x", 5, 0))
	}
	return entries
}

// TestP5LoadOfWhatIsDamaged: nothing of it comes into an engine without
// segments, and none into one that has some.
func TestP5LoadOfWhatIsDamaged(t *testing.T) {
	for what, packed := range damaged {
		t.Run(what, func(t *testing.T) {
			e := hint.New()
			want(t, "Load", e.Load(packed), hint.ErrPacked)
			dumps(t, e)
			want(t, "Flush behind it", e.Flush(), hint.ErrAbsent)
			load(t, e, rich)
			want(t, "Load behind another", e.Load(packed), hint.ErrPacked)
			dumps(t, e, rich)
		})
	}
}

// TestP5LoadOfSpoiltBytes: cut off anywhere, a byte more or less anywhere, and
// each byte as each other one. What is taken all the same must be just what a
// second making of it writes.
func TestP5LoadOfSpoiltBytes(t *testing.T) {
	taken := 0
	try := func(spoilt string) {
		e := hint.New()
		wanted := hint.ErrPacked
		if _, ok := modelUnpack(spoilt); ok {
			wanted = hint.OK
			taken++
		}
		if got := e.Load(spoilt); got != wanted {
			t.Errorf("Load(%q) = %d, want %d", spoilt, got, wanted)
		}
		if wanted == hint.OK {
			dumps(t, e, spoilt)
		}
	}
	for _, packed := range []string{rich, one("a", "x"), gone("a", "ab", "b")} {
		for at := range len(packed) {
			try(packed[:at])
			try(packed[at+1:])
			try(packed[:at] + packed[at+1:])
			for b := range 256 {
				try(packed[:at] + string([]byte{byte(b)}) + packed[at+1:])
				try(packed[:at] + string([]byte{byte(b)}) + packed[at:])
			}
		}
		for b := range 256 {
			try(packed + string([]byte{byte(b)}))
		}
	}
	if taken < 1000 {
		t.Errorf("only %d of the spoilt ones were sound: tags and letters make more", taken)
	}
}

// TestP5LoadErrorsInTheirOrder: several apply at once.
func TestP5LoadErrorsInTheirOrder(t *testing.T) {
	six := hint.New()
	for range 6 {
		load(t, six, numberedEntries(0, 30))
	}
	want(t, "too many segments", six.Load(gone("a")), hint.ErrMany)
	want(t, "too many segments and entries", six.Load(one("a", "x")), hint.ErrMany)
	want(t, "damaged and too many", six.Load("x"), hint.ErrPacked)
	want(t, "31 entries in it and too many", six.Load(numberedEntries(0, 31)), hint.ErrPacked)
	remove(t, six, "n000")
	want(t, "damaged, buffer and too many", six.Load("x"), hint.ErrPacked)
	want(t, "too long, buffer and too many", six.Load(strings.Repeat("x", 4001)), hint.ErrPacked)
	want(t, "buffer and too many segments", six.Load(gone("a")), hint.ErrArg)
	merge(t, six, 0)
	want(t, "buffer and too many entries", six.Load(numberedEntries(1, 30)), hint.ErrArg)
	flush(t, six)
	want(t, "too many segments again", six.Load(gone("a")), hint.ErrMany)
	merge(t, six, 0)
	want(t, "too many entries", six.Load(numberedEntries(30, 2)), hint.ErrMany)
	load(t, six, numberedEntries(30, 1))
}

// TestP5LoadWhileTheBufferSaysSomething: an entry or a gone name; after a
// Flush, which leaves nothing in it, Load is free again.
func TestP5LoadWhileTheBufferSaysSomething(t *testing.T) {
	for what, say := range map[string]func(*hint.Engine){"entry": put("a", "x"), "gone name": deleted("a")} {
		e := hint.New()
		say(e)
		want(t, "Load beside "+what, e.Load(one("b", "y")), hint.ErrArg)
		want(t, "Load beside "+what, e.Load(one("a", "x")), hint.ErrArg)
		want(t, "Load of damage beside "+what, e.Load("x"), hint.ErrPacked)
		flush(t, e)
		load(t, e, one("b", "y"))
		if told, _ := e.Dump(e.Segments() - 1); told != one("b", "y") {
			t.Errorf("the newest segment is %q", told)
		}
	}
}

// TestP5LoadOfManyEntries: what counts is what would be there, not what the
// segments say.
func TestP5LoadOfManyEntries(t *testing.T) {
	e := hint.New()
	load(t, e, numberedEntries(0, 29))
	want(t, "two more", e.Load(numberedEntries(29, 2)), hint.ErrMany)
	dumps(t, e, numberedEntries(0, 29))
	load(t, e, numberedEntries(28, 2))
	want(t, "one more", e.Load(one("a", "x")), hint.ErrMany)
	load(t, e, numberedEntries(0, 30))
	load(t, e, goneAnd(numberedEntries(30, 30), numberedRange(0, 30)...))
	want(t, "one that is gone", e.Load(numberedEntries(0, 1)), hint.ErrMany)
	load(t, e, goneAnd(numberedEntries(0, 1), "a", "n059"))
	want(t, "a 31st", e.Upsert("n059", "x", 0, 0), hint.ErrMany)
	remove(t, e, "n000")
	upsert(t, e, "n059", "x")
}

func numberedRange(first, n int) []string {
	var names []string
	for i := range n {
		names = append(names, numbered("n", first+i))
	}
	return names
}

// TestP5LoadOfManySegments: the sixth is taken, also of gone names alone, the
// seventh is not; Merge makes room.
func TestP5LoadOfManySegments(t *testing.T) {
	e := hint.New()
	for range 5 {
		load(t, e, one("a", "x"))
	}
	load(t, e, gone("a"))
	want(t, "a seventh", e.Load(one("a", "x")), hint.ErrMany)
	want(t, "a seventh of gone names", e.Load(gone("a")), hint.ErrMany)
	dumps(t, e, one("a", "x"), one("a", "x"), one("a", "x"), one("a", "x"), one("a", "x"), gone("a"))
	upsert(t, e, "b", "x")
	want(t, "Flush of a seventh", e.Flush(), hint.ErrMany)
	merge(t, e, 4)
	flush(t, e)
	dumps(t, e, one("a", "x"), one("a", "x"), one("a", "x"), one("a", "x"), gone("a"), one("b", "x"))
}

// TestP5LoadIsTheNewest: what it says counts before what older segments say,
// and what comes later counts before it.
func TestP5LoadIsTheNewest(t *testing.T) {
	e := hint.New()
	load(t, e, goneAnd(one("a", "old"), "b"))
	want(t, "Delete of a gone name", e.Delete("b"), hint.ErrAbsent)
	load(t, e, goneAnd(one("b", "new"), "a"))
	want(t, "Delete of what the newer one takes away", e.Delete("a"), hint.ErrAbsent)
	remove(t, e, "b")
	want(t, "Delete again", e.Delete("b"), hint.ErrAbsent)
	upsert(t, e, "a", "newest")
	flush(t, e)
	dumps(t, e, goneAnd(one("a", "old"), "b"), goneAnd(one("b", "new"), "a"), goneAnd(one("a", "newest"), "b"))
	merge(t, e, 1)
	dumps(t, e, goneAnd(one("a", "old"), "b"), goneAnd(one("a", "newest"), "b"))
	merge(t, e, 0)
	dumps(t, e, one("a", "newest"))
}

// TestP5LoadedGoneNamesStay: even in the oldest segment, till it is merged; so
// that one is ahead of what is flushed then.
func TestP5LoadedGoneNamesStay(t *testing.T) {
	e := hint.New()
	load(t, e, gone("a"))
	makeGone(t, e, "b")
	flush(t, e)
	dumps(t, e, gone("a"), gone("b"))
	merge(t, e, 0)
	dumps(t, e)

	hundred := hint.New()
	load(t, hundred, one("a", "x"))
	load(t, hundred, gone(numberedNames(100)...))
	load(t, hundred, gone("z"))
	want(t, "Merge to 101 gone names", hundred.Merge(1), hint.ErrMany)
	remove(t, hundred, "a")
	merge(t, hundred, 0)
	dumps(t, hundred, one("a", "x"), gone("z"))
}

// TestP2LoadedEnginesAreApart: engines that took the same segment in have
// nothing to do with one another.
func TestP2LoadedEnginesAreApart(t *testing.T) {
	a, b := hint.New(), hint.New()
	load(t, a, rich)
	load(t, b, rich)
	remove(t, a, "abcdefgh")
	flush(t, a)
	merge(t, a, 0)
	dumps(t, b, rich)
	remove(t, b, "abcdefgh")
	if told, _ := a.Dump(0); told == rich || a.Segments() != 1 {
		t.Errorf("the merged one: %q of %d", told, a.Segments())
	}
}

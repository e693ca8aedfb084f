// Package packed writes layers as packed segments, and reads them back.
package packed

import (
	"cmp"
	"slices"

	"hint/layer"
	"hint/texts"
)

// leaf is an entry on its way into the tree; its folded text is its path.
type leaf struct {
	path  string
	entry layer.Entry
}

// Pack writes what a layer says. The counts and lengths of a layer that keeps
// to the limits fit into one byte each.
func Pack(said layer.Layer) string {
	out := appendGone(nil, said)
	out = appendNode(out, "", 0, sortedLeaves(said))
	return string(out)
}

func appendGone(out []byte, said layer.Layer) []byte {
	var gone []string
	for name, saying := range said {
		if saying.Gone {
			gone = append(gone, name)
		}
	}
	slices.Sort(gone)
	out = append(out, byte(len(gone)))
	for _, name := range gone {
		out = appendString(out, name)
	}
	return out
}

// sortedLeaves puts leaves of one node side by side, those that end there
// first and by their names, and the others by their next bytes: the order in
// which they are written.
func sortedLeaves(said layer.Layer) []leaf {
	var leaves []leaf
	for _, saying := range said {
		if !saying.Gone {
			leaves = append(leaves, leaf{texts.Fold(saying.Entry.Text), saying.Entry})
		}
	}
	slices.SortFunc(leaves, func(a, b leaf) int {
		return cmp.Or(cmp.Compare(a.path, b.path), cmp.Compare(a.entry.Name, b.entry.Name))
	})
	return leaves
}

// appendNode writes the node to which the first depth bytes of the leaves'
// paths lead, and all below it.
func appendNode(out []byte, label string, depth int, leaves []leaf) []byte {
	out = appendString(out, label)
	out = appendWeight(out, greatestWeight(leaves))
	here := countEnding(leaves, depth)
	out = append(out, byte(here))
	for _, l := range leaves[:here] {
		out = appendEntry(out, l.entry)
	}
	children := split(leaves[here:], depth)
	out = append(out, byte(len(children)))
	for _, child := range children {
		end := commonLength(child)
		out = appendNode(out, child[0].path[depth:end], end, child)
	}
	return out
}

func greatestWeight(leaves []leaf) int {
	greatest := 0
	for _, l := range leaves {
		greatest = max(greatest, l.entry.Weight)
	}
	return greatest
}

// countEnding counts the leaves whose paths end at depth; being sorted, they
// are the first ones.
func countEnding(leaves []leaf, depth int) int {
	n := 0
	for n < len(leaves) && len(leaves[n].path) == depth {
		n++
	}
	return n
}

// split parts sorted leaves where the byte at depth changes.
func split(leaves []leaf, depth int) [][]leaf {
	var parts [][]leaf
	start := 0
	for i := range leaves {
		last := i+1 == len(leaves)
		if last || leaves[i].path[depth] != leaves[i+1].path[depth] {
			parts = append(parts, leaves[start:i+1])
			start = i + 1
		}
	}
	return parts
}

// commonLength tells how many bytes the paths of sorted leaves begin alike
// with; the first and the last differ the earliest.
func commonLength(leaves []leaf) int {
	first, last := leaves[0].path, leaves[len(leaves)-1].path
	n := 0
	for n < len(first) && n < len(last) && first[n] == last[n] {
		n++
	}
	return n
}

func appendEntry(out []byte, entry layer.Entry) []byte {
	out = appendString(out, entry.Name)
	out = appendString(out, entry.Text)
	out = appendWeight(out, entry.Weight)
	return append(out, byte(entry.Tags))
}

func appendString(out []byte, s string) []byte {
	out = append(out, byte(len(s)))
	return append(out, s...)
}

func appendWeight(out []byte, weight int) []byte {
	return append(out, byte(weight>>16), byte(weight>>8), byte(weight))
}

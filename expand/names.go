package expand

import (
	"iter"
	"slices"
)

// names are those that are hidden of a token, rising. Tokens share them, so they are not written into once they are made.
type names []string

func (l names) has(name string) bool {
	_, there := slices.BinarySearch(l, name)
	return there
}

// with are names, and one more. What stands ahead of it is cut to its own room, so that it grows elsewhere, and not over names that other tokens have.
func (l names) with(name string) names {
	i, there := slices.BinarySearch(l, name)
	if there {
		return l
	}
	return append(append(l[:i:i], name), l[i:]...)
}

// both are the names that two lists have.
func both(a, b names) names {
	var l names
	for name, twice := range merged(a, b) {
		if twice {
			l = append(l, name)
		}
	}
	return l
}

// either are the names that one of two lists has: one of the two itself, if it has them all, as most tokens of a replacement can share theirs.
func either(a, b names) names {
	size := 0
	for range merged(a, b) {
		size++
	}
	switch size {
	case len(a):
		return a
	case len(b):
		return b
	}
	l := make(names, 0, size)
	for name := range merged(a, b) {
		l = append(l, name)
	}
	return l
}

// merged yields the names of two lists, rising, each once, and whether both have it.
func merged(a, b names) iter.Seq2[string, bool] {
	return func(yield func(string, bool) bool) {
		for i, k := 0, 0; i < len(a) || k < len(b); {
			inA := i < len(a) && (k == len(b) || a[i] <= b[k])
			inB := k < len(b) && (i == len(a) || b[k] <= a[i])
			var name string
			if inA {
				name = a[i]
				i++
			}
			if inB {
				name = b[k]
				k++
			}
			if !yield(name, inA && inB) {
				return
			}
		}
	}
}

// Package text is layer 1: see shared/doc/01-text.md.
package text

import (
	"iter"
	"math"
	"strings"

	"burin/api"
)

const splice = "\\\n"

// Lines are a file's logical lines.
func Lines(data string) ([]api.Line, api.Errno) {
	if len(data) > api.MaxFile {
		return nil, api.ErrLong
	}
	var lines []api.Line
	var whole strings.Builder
	number, first := 0, 1
pieces:
	for piece, follows := range physical(data) {
		number++
		head, open := strings.CutSuffix(piece, `\`)
		if open && follows {
			whole.WriteString(head)
			continue pieces
		}
		whole.WriteString(piece)
		lines = append(lines, api.Line{N: first, S: whole.String()})
		whole.Reset()
		first = number + 1
	}
	return lines, api.OK
}

// Physical is how many physical lines a text has, however long it is.
func Physical(data string) int {
	n := 0
	for range physical(data) {
		n++
	}
	return n
}

// Join is a text of such lines.
func Join(l []api.Line) string {
	size, ok := joinedSize(l)
	if !ok {
		return ""
	}
	var b strings.Builder
	b.Grow(size)
	for i, line := range l {
		b.WriteString(line.S)
		for range leftOut(l, i) {
			b.WriteString(splice)
		}
		b.WriteByte('\n')
	}
	return b.String()
}

// physical yields each physical line, and whether another one follows it: a `\` at the end is a splice only then.
func physical(data string) iter.Seq2[string, bool] {
	return func(yield func(string, bool) bool) {
		start := 0
		for end, next := range lineEnds(data) {
			if !yield(data[start:end], next < len(data)) {
				return
			}
			start = next
		}
		if start < len(data) {
			yield(data[start:], false)
		}
	}
}

// lineEnds yields where each line end begins, and where what stands behind it does.
func lineEnds(data string) iter.Seq2[int, int] {
	return func(yield func(int, int) bool) {
		for i := 0; i < len(data); {
			size := lineEnd(data[i:])
			if size > 0 && !yield(i, i+size) {
				return
			}
			i += max(size, 1)
		}
	}
}

// lineEnd is how many bytes the line end has that a text begins with; 0, if it begins with none.
func lineEnd(s string) int {
	switch {
	case strings.HasPrefix(s, "\r\n"):
		return 2
	case strings.HasPrefix(s, "\r"), strings.HasPrefix(s, "\n"):
		return 1
	}
	return 0
}

// joinedSize is how many bytes the text of lines has. It is refused past the greatest answer that rule R5 speaks of: two numbers that lie far apart must not take all memory.
func joinedSize(l []api.Line) (int, bool) {
	size := 0
	for i, line := range l {
		size += len(line.S) + len(splice)*leftOut(l, i) + 1
		if size > math.MaxInt32 {
			return 0, false
		}
	}
	return size, true
}

// leftOut is how many numbers are left out between line i and the next one: none, if they do not rise. The difference of any two numbers fits a uint64, but not an int; no more than a text can hold is told.
func leftOut(l []api.Line, i int) int {
	if i+1 == len(l) || l[i+1].N <= l[i].N {
		return 0
	}
	gap := uint64(l[i+1].N) - uint64(l[i].N) - 1
	return int(min(gap, math.MaxInt32))
}

package class

import (
	"iter"
	"slices"

	"burin/api"
	"burin/kind"
	"burin/shape"
)

const eight = 8

// mostBytes are how many there may be of what lies in registers.
const mostBytes = 2 * eight

// value is what is handed over of a type: its bytes, to what it is aligned, its classes.
type value struct {
	size    int64
	align   int64
	classes []int
}

// look is what Classes and Pass have to know of a type, or Classes's error.
func look(t api.Type) (value, api.Errno) {
	size, align, errno := shape.Size(t)
	if errno != api.OK {
		return value{}, errno
	}
	if t.Shape == api.SArray {
		return value{}, api.ErrArg
	}
	numbers, errno := shape.Leaves(t)
	if errno != api.OK {
		return value{}, errno
	}
	return value{size, align, classes(size, numbers)}, api.OK
}

// address is a pointer, looked at.
func address() value { return value{size: eight, align: eight, classes: []int{api.CInteger}} }

func (v value) inMemory() bool { return slices.Contains(v.classes, api.CMemory) }

// classes are those of a type of so many bytes, with these numbers within it.
func classes(size int64, numbers []api.Spot) []int {
	askew := func(s api.Spot) bool { // a bit-field of fewer bits than its kind has may lie anywhere
		return s.Bits == 8*int64(kind.Size(s.K)) && s.Bit%s.Bits != 0
	}
	if size > mostBytes || slices.ContainsFunc(numbers, askew) {
		return []int{api.CMemory}
	}
	var l []int
	for _, from := range eights(size) {
		here := func(s api.Spot) bool { return s.Bit < 8*(from+eight) && 8*from < s.Bit+s.Bits }
		class := api.CNone
		if slices.ContainsFunc(numbers, here) {
			class = api.CInteger
		}
		l = append(l, class)
	}
	return l
}

// eights yields which ones there are in so many bytes, and where each begins; the last one may be cut short.
func eights(size int64) iter.Seq2[int, int64] {
	return func(yield func(int, int64) bool) {
		for from := int64(0); from < size; from += eight {
			if !yield(int(from/eight), from) {
				return
			}
		}
	}
}

package kind

import (
	"iter"

	"burin/api"
)

// Places of a tally: the words that kinds are said with.
const (
	atChar = iota
	atShort
	atLong
	atInt
	atSigned
	atUnsigned
	places
)

// tally is how often each word is said.
type tally [places]int

// most is how often each word may be said.
var most = tally{atChar: 1, atShort: 1, atLong: 2, atInt: 1, atSigned: 1, atUnsigned: 1}

// count is the tally of words, and false if there is none, or one that is none or that is said too often; what stands behind that one is not looked at, as nothing makes it right again.
func count(words []string) (tally, bool) {
	var n tally
	ok := len(words) > 0
counting:
	for place, there := range placed(words) {
		if !there || n[place] == most[place] {
			ok = false
			break counting
		}
		n[place]++
	}
	return n, ok
}

// placed yields each word's place, and whether it has one.
func placed(words []string) iter.Seq2[int, bool] {
	return func(yield func(int, bool) bool) {
		for _, w := range words {
			place, there := placeOf(w)
			if !yield(place, there) {
				return
			}
		}
	}
}

func placeOf(word string) (int, bool) {
	switch word {
	case "char":
		return atChar, true
	case "short":
		return atShort, true
	case "long":
		return atLong, true
	case "int":
		return atInt, true
	case "signed":
		return atSigned, true
	case "unsigned":
		return atUnsigned, true
	}
	return 0, false
}

// together tells whether words that are each said seldom enough may stand beside one another.
func (n tally) together() bool {
	char, short, long := n[atChar] > 0, n[atShort] > 0, n[atLong] > 0
	switch {
	case char && (short || long || n[atInt] > 0):
		return false
	case short && long:
		return false
	}
	return n[atSigned] == 0 || n[atUnsigned] == 0
}

// kind is what words say that may stand together.
func (n tally) kind() int {
	unsigned := n[atUnsigned] > 0
	switch {
	case n[atChar] > 0:
		return either(unsigned, api.KUChar, api.KChar)
	case n[atShort] > 0:
		return either(unsigned, api.KUShort, api.KShort)
	case n[atLong] > 0:
		return either(unsigned, api.KULong, api.KLong)
	}
	return either(unsigned, api.KUInt, api.KInt)
}

func either(first bool, a, b int) int {
	if first {
		return a
	}
	return b
}

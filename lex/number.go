package lex

import (
	"math"
	"strconv"
	"strings"

	"burin/api"
	"burin/cond"
)

// number is the word that a number comes to, and whether it has a kind.
func number(s string) (api.Word, bool) {
	bits, _, errno := cond.Number(s)
	if errno != api.OK {
		return api.Word{}, false
	}
	kind := kindOf(bits, s)
	return api.Word{Kind: api.WInt, V: int64(bits), T: kind}, kind != api.KVoid
}

// kindOf is the first kind in which a number lies, of those that its spelling leaves it; KVoid, if there is none. No digit is a letter of a suffix, so the whole spelling may be looked through for one.
func kindOf(bits uint64, s string) int {
	isDecimal := s[0] != '0'
	hasU, hasL := strings.ContainsAny(s, "uU"), strings.ContainsAny(s, "lL")
	for kind := api.KInt; kind <= api.KULong; kind++ {
		unsigned := kind == api.KUInt || kind == api.KULong
		short := kind == api.KInt || kind == api.KUInt
		leftOut := unsigned && isDecimal && !hasU || !unsigned && hasU || short && hasL
		if !leftOut && bits <= greatest(kind) {
			return kind
		}
	}
	return api.KVoid
}

// greatest is the greatest number of a kind that numbers may have.
func greatest(kind int) uint64 {
	switch kind {
	case api.KInt:
		return math.MaxInt32
	case api.KUInt:
		return math.MaxUint32
	case api.KLong:
		return math.MaxInt64
	}
	return math.MaxUint64
}

// rightInt takes a value as its bits: of all kinds but KULong, one below 0 is then too great. Only a character is below 0.
func rightInt(v int64, kind int) bool {
	if kind < api.KInt || kind > api.KULong {
		return false
	}
	isChar := kind == api.KInt && math.MinInt8 <= v && v < 0
	return isChar || uint64(v) <= greatest(kind)
}

func spellInt(v int64, kind int) string {
	if kind == api.KInt && v < 0 {
		return "'" + escape(byte(v)) + "'"
	}
	return strconv.FormatUint(uint64(v), 10) + suffix(kind)
}

func suffix(kind int) string {
	switch kind {
	case api.KUInt:
		return "u"
	case api.KLong:
		return "l"
	case api.KULong:
		return "ul"
	}
	return ""
}

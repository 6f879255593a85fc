package arith

import (
	"burin/api"
	"burin/kind"
)

// operator is how one is written, and of how many numbers it is.
type operator struct {
	sign string
	of   int
}

var operators = [...]operator{
	api.OAdd:  {"+", 2},
	api.OSub:  {"-", 2},
	api.OMul:  {"*", 2},
	api.ODiv:  {"/", 2},
	api.OMod:  {"%", 2},
	api.OShl:  {"<<", 2},
	api.OShr:  {">>", 2},
	api.OAnd:  {"&", 2},
	api.OXor:  {"^", 2},
	api.OOr:   {"|", 2},
	api.OLess: {"<", 2},
	api.OLeq:  {"<=", 2},
	api.OEq:   {"==", 2},
	api.ONeq:  {"!=", 2},
	api.ONeg:  {"-", 1},
	api.OFlip: {"~", 1},
	api.ONot:  {"!", 1},
}

// told is an operator's row; what is no operator is of 0 numbers.
func told(op int) operator {
	if op < 0 || op >= len(operators) {
		return operator{}
	}
	return operators[op]
}

func shifts(op int) bool { return op == api.OShl || op == api.OShr }

// asks tells whether an operator's value is 1 or 0, of KInt.
func asks(op int) bool {
	switch op {
	case api.OLess, api.OLeq, api.OEq, api.ONeq, api.ONot:
		return true
	}
	return false
}

// reckonedIn is the kind in which an operator reckons; of one of one b is not looked at.
func reckonedIn(op, a, b int) (int, api.Errno) {
	if !Binary(op) {
		return kind.Promoted(a)
	}
	usual, errno := kind.Usual(a, b)
	if errno == api.OK && shifts(op) { // b counts for nothing, but had to be a kind
		return kind.Promoted(a)
	}
	return usual, errno
}

func bitsOf(k int) uint64 { return 8 * uint64(kind.Size(k)) }

// strict is what an operator makes of numbers that are reckoned with in the kind k, and that value's kind, or ErrUndef.
func strict(op, k int, a, b wide) (int64, int, api.Errno) {
	if !defined(op, k, a, b) {
		return 0, api.KVoid, api.ErrUndef
	}
	n := reckon(op, a, b)
	if !keeps(n, k) {
		return 0, api.KVoid, api.ErrUndef
	}
	v, errno := kind.To(int64(n.low), k)
	if asks(op) {
		k = api.KInt
	}
	return v, k, errno
}

// defined tells whether what is handed in may be reckoned with, whatever comes out.
func defined(op, k int, a, b wide) bool {
	switch op {
	case api.ODiv:
		return b != wide{}
	case api.OMod: // a remainder lies where its quotient need not
		return b != wide{} && keeps(a.over(b), k)
	case api.OShl:
		return !a.below(wide{}) && inBits(b, k)
	case api.OShr:
		return inBits(b, k)
	}
	return true
}

// inBits tells whether a number is from 0 on, below the bits of the kind k.
func inBits(n wide, k int) bool {
	return !n.below(wide{}) && n.below(wide{low: bitsOf(k)})
}

// keeps tells whether the kind k takes a true result as it is, or goes round.
func keeps(n wide, k int) bool {
	return kind.Unsigned(k) || made(int64(n.low), k) == n
}

// reckon is the true result; it is called with no divisor that is 0, and to shift by 0 to 63 alone.
func reckon(op int, a, b wide) wide {
	switch op {
	case api.OAdd:
		return a.plus(b)
	case api.OSub:
		return a.minus(b)
	case api.OMul:
		return a.times(b)
	case api.ODiv:
		return a.over(b)
	case api.OMod:
		return a.rest(b)
	case api.OShl:
		return a.up(b.low)
	case api.OShr:
		return a.down(b.low)
	case api.OAnd:
		return wide{a.high & b.high, a.low & b.low}
	case api.OXor:
		return wide{a.high ^ b.high, a.low ^ b.low}
	case api.OOr:
		return wide{a.high | b.high, a.low | b.low}
	case api.OLess:
		return truth(a.below(b))
	case api.OLeq:
		return truth(!b.below(a))
	case api.OEq:
		return truth(a == b)
	case api.ONeq:
		return truth(a != b)
	case api.ONeg:
		return a.negative()
	case api.OFlip:
		return wide{^a.high, ^a.low}
	}
	return truth(a == wide{})
}

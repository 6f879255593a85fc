package cond

import "cmp"

// of is what a sign makes of its operands. Beside a false, which says that this is undefined, the kind is right still, as it counts where the value does not.
func (w waiting) of(v value) (value, bool) {
	a, unsigned := w.ahead, w.ahead.unsigned || v.unsigned
	switch w.level {
	case isPrefix:
		return prefixed(w.sign, v), true
	case isChoice:
		if w.taken {
			v.bits = a.bits
		}
		return value{v.bits, unsigned}, true
	case isOr:
		return truth(a.bits != 0 || v.bits != 0), true
	case isAnd:
		return truth(a.bits != 0 && v.bits != 0), true
	case isEqual:
		return truth((a.bits == v.bits) == (w.sign == "==")), true
	case isOrder:
		return truth(ordered(w.sign, a.bits, v.bits, unsigned)), true
	case isShift:
		bits, defined := shifted(w.sign, a, v.bits)
		return value{bits, a.unsigned}, defined
	}
	if w.sign == "/" || w.sign == "%" {
		bits, defined := divided(w.sign, a.bits, v.bits, unsigned)
		return value{bits, unsigned}, defined
	}
	return value{joined(w.sign, a.bits, v.bits), unsigned}, true
}

func truth(is bool) value {
	if is {
		return value{bits: 1}
	}
	return value{}
}

func prefixed(sign string, v value) value {
	switch sign {
	case "!":
		return truth(v.bits == 0)
	case "-":
		v.bits = -v.bits
	case "~":
		v.bits = ^v.bits
	}
	return v
}

// joined is of those signs whose bits are the same, signed or not.
func joined(sign string, a, b uint64) uint64 {
	switch sign {
	case "*":
		return a * b
	case "+":
		return a + b
	case "-":
		return a - b
	case "&":
		return a & b
	case "^":
		return a ^ b
	}
	return a | b
}

func ordered(sign string, a, b uint64, unsigned bool) bool {
	order := cmp.Compare(int64(a), int64(b))
	if unsigned {
		order = cmp.Compare(a, b)
	}
	switch sign {
	case "<":
		return order < 0
	case ">":
		return order > 0
	case "<=":
		return order <= 0
	}
	return order >= 0
}

// shifted need not know the kind of what it shifts by: as bits, less than 0 is 64 or more.
func shifted(sign string, a value, by uint64) (uint64, bool) {
	switch {
	case by >= width:
		return 0, false
	case sign == "<<":
		return a.bits << by, true
	case a.unsigned:
		return a.bits >> by, true
	}
	return uint64(int64(a.bits) >> by), true
}

func divided(sign string, a, b uint64, unsigned bool) (uint64, bool) {
	switch {
	case b == 0:
		return 0, false
	case unsigned && sign == "/":
		return a / b, true
	case unsigned:
		return a % b, true
	case sign == "/":
		return uint64(int64(a) / int64(b)), true
	}
	return uint64(int64(a) % int64(b)), true
}

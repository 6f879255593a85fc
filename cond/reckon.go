package cond

import "burin/api"

// Signs that stand round an operand.
const (
	opening = "("
	closing = ")"
	asking  = "?"
	parting = ":"
)

// How tightly signs bind. Open are a `(`, and a `?` whose `:` is still to come: nothing but the sign that closes them ends their operand.
const (
	isOpen = iota
	isChoice
	isOr
	isAnd
	isBitOr
	isBitXor
	isBitAnd
	isEqual
	isOrder
	isShift
	isSum
	isProduct
	isPrefix
)

// value is 64 bits, and their kind.
type value struct {
	bits     uint64
	unsigned bool
}

// waiting is a sign whose last operand is still to come.
type waiting struct {
	sign  string
	level int
	ahead value // the operand that stands ahead of the sign, if it is needed still
	taken bool  // of a choice: is it the second operand that counts?
	skips bool  // what comes does not count
}

// reckoner keeps what waits in a list, as conditions may be nested as deep as they are long.
type reckoner struct {
	waits     []waiting
	skips     int // how many of those that wait skip what comes
	undefined bool
}

// reckon tells a condition's value. The outer loop stands where an operand must come, the inner one behind an operand.
func reckon(l []api.Tok) (value, bool) {
	var r reckoner
operands:
	for i := 0; i < len(l); i++ {
		if r.ahead(l[i]) {
			continue
		}
		v, ok := operand(l[i])
		for i++; ok && i < len(l); i++ {
			if r.behind(l[i], v) {
				continue operands
			}
			v, ok = r.close(l[i], v)
		}
		v = r.settle(v, isChoice)
		return v, ok && len(r.waits) == 0 && !r.undefined
	}
	return value{}, false
}

func operand(t api.Tok) (value, bool) {
	switch t.Kind {
	case api.TName:
		return value{}, true
	case api.TChar:
		c, errno := Char(t.S)
		return value{bits: uint64(c)}, errno == api.OK
	case api.TNumber:
		v, ok := readNumber(t.S)
		return v, ok && (v.unsigned || v.bits < signBit) // only a decimal number is great and signed
	}
	return value{}, false
}

// ahead lets a sign wait that may stand ahead of an operand, and tells whether it is one.
func (r *reckoner) ahead(t api.Tok) bool {
	if t.Kind != api.TPunct {
		return false
	}
	switch t.S {
	case opening:
		r.push(waiting{sign: opening, level: isOpen})
	case "+", "-", "~", "!":
		r.push(waiting{sign: t.S, level: isPrefix})
	default:
		return false
	}
	return true
}

// behind lets a sign wait that stands behind an operand and ahead of another one, and tells whether it is one.
func (r *reckoner) behind(t api.Tok, v value) bool {
	if t.Kind != api.TPunct {
		return false
	}
	switch t.S {
	case asking:
		v = r.settle(v, isOr) // not what waits behind a `:`, which this choice belongs to
		r.push(waiting{sign: asking, level: isOpen, taken: v.bits != 0, skips: v.bits == 0})
		return true
	case parting:
		v = r.settle(v, isChoice)
		w, ok := r.leave(asking)
		if !ok {
			return false
		}
		r.push(waiting{sign: parting, level: isChoice, ahead: v, taken: w.taken, skips: w.taken})
		return true
	}
	level := levelOf(t.S)
	if level == isOpen {
		return false
	}
	v = r.settle(v, level)
	skips := level == isAnd && v.bits == 0 || level == isOr && v.bits != 0
	r.push(waiting{sign: t.S, level: level, ahead: v, skips: skips})
	return true
}

// close ends the operand that a `(` waits for, and tells whether there is one.
func (r *reckoner) close(t api.Tok, v value) (value, bool) {
	if t.Kind != api.TPunct || t.S != closing {
		return value{}, false
	}
	v = r.settle(v, isChoice)
	_, ok := r.leave(opening)
	return v, ok
}

// leave takes away an open sign, if it is the last one that waits.
func (r *reckoner) leave(sign string) (waiting, bool) {
	if len(r.waits) == 0 || r.last().sign != sign {
		return waiting{}, false
	}
	return r.pop(), true
}

// settle works out all that waits for an operand and binds at least as tightly as a level.
func (r *reckoner) settle(v value, level int) value {
	for len(r.waits) > 0 && r.last().level >= level {
		told, defined := r.pop().of(v)
		if !defined && r.skips == 0 {
			r.undefined = true
		}
		v = told
	}
	return v
}

func (r *reckoner) last() waiting {
	return r.waits[len(r.waits)-1]
}

func (r *reckoner) push(w waiting) {
	r.waits = append(r.waits, w)
	if w.skips {
		r.skips++
	}
}

func (r *reckoner) pop() waiting {
	w := r.last()
	r.waits = r.waits[:len(r.waits)-1]
	if w.skips {
		r.skips--
	}
	return w
}

// levelOf is how a sign between two operands binds; isOpen says that it is none.
func levelOf(sign string) int {
	switch sign {
	case "||":
		return isOr
	case "&&":
		return isAnd
	case "|":
		return isBitOr
	case "^":
		return isBitXor
	case "&":
		return isBitAnd
	case "==", "!=":
		return isEqual
	case "<", ">", "<=", ">=":
		return isOrder
	case "<<", ">>":
		return isShift
	case "+", "-":
		return isSum
	case "*", "/", "%":
		return isProduct
	}
	return isOpen
}

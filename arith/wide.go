package arith

import (
	"math/bits"

	"burin/kind"
)

// wide is a number of two halves, with a sign, two's complement. It has room for every kind's values and for all true results of them, but products of unsigned ones; and these go round anyway.
type wide struct {
	high, low uint64
}

// worth is what a value of the kind k stands for, as it is handed about.
func worth(v int64, k int) wide {
	if kind.Unsigned(k) {
		return wide{0, uint64(v)}
	}
	return wide{uint64(v >> 63), uint64(v)}
}

// made is what a number stands for once it is a value of the kind k.
func made(v int64, k int) wide {
	v, _ = kind.To(v, k)
	return worth(v, k)
}

func truth(holds bool) wide {
	if holds {
		return wide{0, 1}
	}
	return wide{}
}

func (n wide) below(m wide) bool {
	if n.high != m.high {
		return int64(n.high) < int64(m.high)
	}
	return n.low < m.low
}

func (n wide) plus(m wide) wide {
	low, carry := bits.Add64(n.low, m.low, 0)
	high, _ := bits.Add64(n.high, m.high, carry)
	return wide{high, low}
}

func (n wide) minus(m wide) wide {
	low, borrow := bits.Sub64(n.low, m.low, 0)
	high, _ := bits.Sub64(n.high, m.high, borrow)
	return wide{high, low}
}

func (n wide) negative() wide { return wide{}.minus(n) }

func (n wide) times(m wide) wide {
	high, low := bits.Mul64(n.low, m.low)
	return wide{high + n.high*m.low + n.low*m.high, low}
}

// over is the quotient towards 0, rest the remainder with n's sign; both numbers are values of kinds, and m is not 0.
func (n wide) over(m wide) wide {
	q := wide{0, n.size() / m.size()}
	if n.below(wide{}) != m.below(wide{}) {
		return q.negative()
	}
	return q
}

func (n wide) rest(m wide) wide {
	r := wide{0, n.size() % m.size()}
	if n.below(wide{}) {
		return r.negative()
	}
	return r
}

// size is how far a value of a kind is from 0: one half has room for it.
func (n wide) size() uint64 {
	if n.below(wide{}) {
		return n.negative().low
	}
	return n.low
}

// up is n times 2 to the power by, down is it divided by that, downwards; by is 0 to 63.
func (n wide) up(by uint64) wide {
	return wide{n.high<<by | n.low>>(64-by), n.low << by}
}

func (n wide) down(by uint64) wide {
	return wide{uint64(int64(n.high) >> by), n.low>>by | n.high<<(64-by)}
}

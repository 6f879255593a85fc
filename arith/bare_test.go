package arith_test

import (
	"math/big"
	"strings"

	"burin/api"
)

// A second reading of the chapter, for tests to hold the first one against: kinds and operators are rows of tables, and numbers have no bounds.

type bareKind struct {
	bits   uint
	signed bool
}

var bareKinds = map[int]bareKind{
	api.KChar: {8, true}, api.KUChar: {8, false},
	api.KShort: {16, true}, api.KUShort: {16, false},
	api.KInt: {32, true}, api.KUInt: {32, false},
	api.KLong: {64, true}, api.KULong: {64, false},
}

// bareOp is an operator: its sign, of how many numbers it is, and which letter says its kind: u of both the usual one, p of the first one the promoted one, i is KInt.
type bareOp struct {
	sign   string
	of     int
	letter byte
}

var bareOps = map[int]bareOp{
	1: {"+", 2, 'u'}, 2: {"-", 2, 'u'}, 3: {"*", 2, 'u'}, 4: {"/", 2, 'u'}, 5: {"%", 2, 'u'},
	6: {"<<", 2, 'p'}, 7: {">>", 2, 'p'},
	8: {"&", 2, 'u'}, 9: {"^", 2, 'u'}, 10: {"|", 2, 'u'},
	11: {"<", 2, 'i'}, 12: {"<=", 2, 'i'}, 13: {"==", 2, 'i'}, 14: {"!=", 2, 'i'},
	15: {"-", 1, 'p'}, 16: {"~", 1, 'p'}, 17: {"!", 1, 'i'},
}

// bareUsual has a row and a column of each kind, in the order of their numbers.
const bareUsual = `
i i i i i u l U
i i i i i u l U
i i i i i u l U
i i i i i u l U
i i i i i u l U
u u u u u u l U
l l l l l l l U
U U U U U U U U`

var bareLetters = map[string]int{"i": api.KInt, "u": api.KUInt, "l": api.KLong, "U": api.KULong}

var bareCells = strings.Fields(bareUsual)

func bareUsualOf(a, b int) int { return bareLetters[bareCells[8*(a-1)+b-1]] }

func power(n uint) *big.Int { return new(big.Int).Lsh(big.NewInt(1), n) }

func (b bareKind) isULong() bool { return b.bits == 64 && !b.signed }

// worth is what a number of this kind stands for, as it is handed about.
func (b bareKind) worth(v int64) *big.Int {
	if b.isULong() {
		return new(big.Int).SetUint64(uint64(v))
	}
	return big.NewInt(v)
}

func (b bareKind) has(n *big.Int) bool {
	low, high := new(big.Int), power(b.bits)
	if b.signed {
		high = power(b.bits - 1)
		low.Neg(high)
	}
	return low.Cmp(n) <= 0 && n.Cmp(high) < 0
}

// round is what is left of a number in so many bits.
func (b bareKind) round(n *big.Int) *big.Int {
	left := new(big.Int).Mod(n, power(b.bits))
	if !b.has(left) {
		left.Sub(left, power(b.bits))
	}
	return left
}

func (b bareKind) handed(n *big.Int) int64 {
	if b.isULong() {
		return int64(n.Uint64())
	}
	return n.Int64()
}

func bareLies(v int64, k int) bool {
	b, is := bareKinds[k]
	return is && b.has(b.worth(v))
}

func bareTruth(holds bool) *big.Int {
	if holds {
		return big.NewInt(1)
	}
	return new(big.Int)
}

// bareTrue is the true result, of a divisor that is not 0 and of shifts by no more than a kind's bits.
func bareTrue(op int, a, b *big.Int) *big.Int {
	n := new(big.Int)
	switch sign := bareOps[op].sign; {
	case op == 15:
		return n.Neg(a)
	case sign == "+":
		return n.Add(a, b)
	case sign == "-":
		return n.Sub(a, b)
	case sign == "*":
		return n.Mul(a, b)
	case sign == "/":
		return n.Quo(a, b)
	case sign == "%":
		return n.Rem(a, b)
	case sign == "<<":
		return n.Mul(a, power(uint(b.Uint64())))
	case sign == ">>": // Div rounds downwards here, as the divisor is above 0
		return n.Div(a, power(uint(b.Uint64())))
	case sign == "&":
		return n.And(a, b)
	case sign == "^":
		return n.Xor(a, b)
	case sign == "|":
		return n.Or(a, b)
	case sign == "<":
		return bareTruth(a.Cmp(b) < 0)
	case sign == "<=":
		return bareTruth(a.Cmp(b) <= 0)
	case sign == "==":
		return bareTruth(a.Cmp(b) == 0)
	case sign == "!=":
		return bareTruth(a.Cmp(b) != 0)
	case sign == "~":
		return n.Not(a)
	}
	return bareTruth(a.Sign() == 0)
}

// bareResult is in which kind is reckoned, and the value's.
func bareResult(op, a, b int) (int, int, api.Errno) {
	o, is := bareOps[op]
	if !is {
		return 0, 0, api.ErrArg
	}
	_, isA := bareKinds[a]
	_, isB := bareKinds[b]
	if !isA || o.of == 2 && !isB {
		return 0, 0, api.ErrKind
	}
	in := bareUsualOf(a, a)
	if o.of == 2 && o.letter != 'p' {
		in = bareUsualOf(a, b)
	}
	if o.letter == 'i' {
		return in, api.KInt, api.OK
	}
	return in, in, api.OK
}

// bareUndefined tells whether what is reckoned in the kind k is.
func bareUndefined(op int, k bareKind, a, b *big.Int) bool {
	switch bareOps[op].sign {
	case "<<", ">>":
		if b.Sign() < 0 || b.Cmp(big.NewInt(int64(k.bits))) >= 0 || bareOps[op].sign == "<<" && a.Sign() < 0 {
			return true
		}
	case "/", "%":
		if b.Sign() == 0 || k.signed && !k.has(bareTrue(api.ODiv, a, b)) {
			return true
		}
	}
	return k.signed && !k.has(bareTrue(op, a, b))
}

// bareMake is what Two and One answer; of an operator of one of is 1.
func bareMake(of, op int, a int64, ak int, b int64, bk int) (int64, int, api.Errno) {
	if bareOps[op].of != of {
		return 0, 0, api.ErrArg
	}
	if !bareLies(a, ak) || of == 2 && !bareLies(b, bk) {
		return 0, 0, api.ErrKind
	}
	in, k, _ := bareResult(op, ak, bk)
	kin := bareKinds[in]
	first, second := kin.round(bareKinds[ak].worth(a)), bareKinds[bk].worth(b)
	if bareOps[op].letter != 'p' {
		second = kin.round(second)
	}
	if bareUndefined(op, kin, first, second) {
		return 0, 0, api.ErrUndef
	}
	return kin.handed(kin.round(bareTrue(op, first, second))), k, api.OK
}

func bareWrap(op, k int, a, b int64) (int64, api.Errno) {
	if _, is := bareOps[op]; !is {
		return 0, api.ErrArg
	}
	if !bareLies(a, k) || !bareLies(b, k) {
		return 0, api.ErrKind
	}
	kin := bareKinds[k]
	first, second := kin.worth(a), kin.worth(b)
	switch bareOps[op].sign {
	case "<<", ">>":
		second.Mod(second, big.NewInt(int64(kin.bits)))
	case "/":
		if b == 0 {
			return 0, api.OK
		}
	case "%":
		if b == 0 {
			return a, api.OK
		}
	}
	return kin.handed(kin.round(bareTrue(op, first, second))), api.OK
}

package arith_test

import (
	"math"
	"math/big"
	"slices"
	"testing"

	"burin/api"
	"burin/arith"
	"burin/kind"
)

var kinds = []int{api.KChar, api.KUChar, api.KShort, api.KUShort, api.KInt, api.KUInt, api.KLong, api.KULong}

// noKinds are numbers that are none, some of which have a kind in their lowest bits.
var noKinds = []int{0, -1, -5, -8, 9, 10, 255, 257, 1<<16 + 2, 1<<32 + 5, math.MaxInt32, math.MinInt32, math.MaxInt, math.MinInt}

var twos = []int{
	api.OAdd, api.OSub, api.OMul, api.ODiv, api.OMod, api.OShl, api.OShr, api.OAnd, api.OXor, api.OOr, api.OLess, api.OLeq, api.OEq, api.ONeq,
}

var ones = []int{api.ONeg, api.OFlip, api.ONot}

// noOps are numbers that are no operator, likewise.
var noOps = []int{0, -1, -3, -17, 18, 19, 100, 255, 256, 257, 1<<16 + 15, 1<<32 + 1, -1<<32 + 17, math.MaxInt32, math.MinInt32, math.MaxInt, math.MinInt}

const (
	least = math.MinInt64
	most  = math.MaxInt64
)

// ends are a kind's values at both ends, what lies beside these and beside 0, and how far may be shifted.
func ends(k int) []int64 {
	l := []int64{least, most, least + 1, most - 1, 0x5555555555555555, -0x5555555555555556, 3037000499, 3037000500, -3037000500, 1 << 62, -1 << 62}
	for _, n := range []uint{0, 3, 5, 6, 7, 8, 15, 16, 31, 32, 63} {
		for _, by := range []int64{-1, 0, 1} {
			l = append(l, 1<<n+by, -1<<n+by)
		}
	}
	slices.Sort(l)
	return slices.DeleteFunc(slices.Compact(l), func(v int64) bool { return !bareLies(v, k) })
}

// outside are numbers that do not lie in a kind, the nearest ones first.
func outside(k int) []int64 {
	b := bareKinds[k]
	low, high := int64(0), int64(1)<<b.bits-1
	if b.bits == 64 {
		return nil
	}
	if b.signed {
		high >>= 1
		low = -high - 1
	}
	return []int64{low - 1, high + 1, 1 << 62, least, most}
}

func wantTwo(t *testing.T, op int, a int64, ak int, b int64, bk int, want int64, k int, errno api.Errno) {
	t.Helper()
	if v, is, e := arith.Two(op, a, ak, b, bk); v != want || is != k || e != errno {
		t.Errorf("%d of %d, %s (%d), %d of %d: %d of %d, %d; want %d of %d, %d", a, ak, bareOps[op].sign, op, b, bk, v, is, e, want, k, errno)
	}
}

func wantOne(t *testing.T, op int, a int64, ak int, want int64, k int, errno api.Errno) {
	t.Helper()
	if v, is, e := arith.One(op, a, ak); v != want || is != k || e != errno {
		t.Errorf("%s (%d), %d of %d: %d of %d, %d; want %d of %d, %d", bareOps[op].sign, op, a, ak, v, is, e, want, k, errno)
	}
}

func wantWrap(t *testing.T, op, k int, a, b, want int64, errno api.Errno) {
	t.Helper()
	if v, e := arith.Wrap(op, k, a, b); v != want || e != errno {
		t.Errorf("of %d: %d, %s (%d), %d: %d, %d; want %d, %d", k, a, bareOps[op].sign, op, b, v, e, want, errno)
	}
}

func wantResult(t *testing.T, op, a, b, want int, errno api.Errno) {
	t.Helper()
	if k, e := arith.Result(op, a, b); k != want || e != errno {
		t.Errorf("%d of %d, %d: %d, %d; want %d, %d", op, a, b, k, e, want, errno)
	}
}

// wantBareTwo, wantBareOne and wantBareWrap hold calls against the second reading.
func wantBareTwo(t *testing.T, op int, a int64, ak int, b int64, bk int) {
	t.Helper()
	v, k, e := bareMake(2, op, a, ak, b, bk)
	wantTwo(t, op, a, ak, b, bk, v, k, e)
}

func wantBareOne(t *testing.T, op int, a int64, ak int) {
	t.Helper()
	v, k, e := bareMake(1, op, a, ak, 0, 0)
	wantOne(t, op, a, ak, v, k, e)
}

func wantBareWrap(t *testing.T, op, k int, a, b int64) {
	t.Helper()
	v, e := bareWrap(op, k, a, b)
	wantWrap(t, op, k, a, b, v, e)
}

// The chapter's examples, and those of the whole that are of numbers.
func TestExamples(t *testing.T) {
	wantTwo(t, api.OAdd, 2147483647, api.KInt, 1, api.KInt, 0, 0, api.ErrUndef)
	wantTwo(t, api.OAdd, 2147483647, api.KInt, 1, api.KUInt, 2147483648, api.KUInt, api.OK)
	wantTwo(t, api.OAdd, 2147483647, api.KInt, 1, api.KLong, 2147483648, api.KLong, api.OK)
	wantTwo(t, api.OLess, -1, api.KInt, 1, api.KUInt, 0, api.KInt, api.OK)
	wantTwo(t, api.ODiv, -7, api.KInt, 2, api.KChar, -3, api.KInt, api.OK)
	wantTwo(t, api.OShr, -8, api.KInt, 1, api.KULong, -4, api.KInt, api.OK)
	wantTwo(t, api.OShl, 1, api.KInt, 31, api.KInt, 0, 0, api.ErrUndef)
	wantOne(t, api.ONeg, -128, api.KChar, 128, api.KInt, api.OK)
	wantWrap(t, api.OAdd, api.KChar, 127, 1, -128, api.OK)
	wantWrap(t, api.ODiv, api.KInt, 5, 0, 0, api.OK)
}

// P9.1: each operator's sign, and of how many it is.
func TestSigns(t *testing.T) {
	signs := map[int]string{
		api.OAdd: "+", api.OSub: "-", api.OMul: "*", api.ODiv: "/", api.OMod: "%", api.OShl: "<<", api.OShr: ">>",
		api.OAnd: "&", api.OXor: "^", api.OOr: "|", api.OLess: "<", api.OLeq: "<=", api.OEq: "==", api.ONeq: "!=",
		api.ONeg: "-", api.OFlip: "~", api.ONot: "!",
	}
	for _, op := range slices.Concat(twos, ones, noOps) {
		if arith.Sign(op) != signs[op] || arith.Binary(op) != slices.Contains(twos, op) {
			t.Errorf("%d: %q, %t; want %q", op, arith.Sign(op), arith.Binary(op), signs[op])
		}
	}
	for op := -300; op < 300; op++ {
		if arith.Sign(op) != signs[op] || arith.Binary(op) != (op >= 1 && op <= 14) {
			t.Errorf("%d: %q, %t", op, arith.Sign(op), arith.Binary(op))
		}
	}
}

// P9.1: the value's kind, some by hand.
func TestResult(t *testing.T) {
	wantResult(t, api.OAdd, api.KChar, api.KUShort, api.KInt, api.OK)
	wantResult(t, api.OSub, api.KInt, api.KUInt, api.KUInt, api.OK)
	wantResult(t, api.OMul, api.KUInt, api.KLong, api.KLong, api.OK)
	wantResult(t, api.OOr, api.KLong, api.KULong, api.KULong, api.OK)
	wantResult(t, api.OShl, api.KChar, api.KULong, api.KInt, api.OK)
	wantResult(t, api.OShr, api.KULong, api.KChar, api.KULong, api.OK)
	wantResult(t, api.OShr, api.KUInt, api.KLong, api.KUInt, api.OK)
	wantResult(t, api.OEq, api.KULong, api.KULong, api.KInt, api.OK)
	wantResult(t, api.OLeq, api.KUInt, api.KChar, api.KInt, api.OK)
	wantResult(t, api.ONeg, api.KUChar, 0, api.KInt, api.OK)
	wantResult(t, api.OFlip, api.KUInt, 0, api.KUInt, api.OK)
	wantResult(t, api.ONot, api.KULong, 0, api.KInt, api.OK)
}

// P9.1: each number as an operator, of each pair of numbers as kinds; of an operator of one the second one counts for nothing.
func TestEveryResult(t *testing.T) {
	for _, op := range slices.Concat(twos, ones, noOps) {
		for _, a := range slices.Concat(kinds, noKinds) {
			for _, b := range slices.Concat(kinds, noKinds) {
				_, k, e := bareResult(op, a, b)
				wantResult(t, op, a, b, k, e)
			}
		}
	}
	wantResult(t, 0, 0, 0, 0, api.ErrArg)
	wantResult(t, 18, api.KInt, api.KInt, 0, api.ErrArg)
	wantResult(t, api.OAdd, api.KInt, 0, 0, api.ErrKind)
	wantResult(t, api.OShl, api.KInt, 9, 0, api.ErrKind)
	wantResult(t, api.OEq, 0, api.KInt, 0, api.ErrKind)
	wantResult(t, api.ONot, 0, api.KInt, 0, api.ErrKind)
}

// P9.2: the ends of each kind in which is reckoned, by hand: what lies just in it, and what just does not.
func TestEnds(t *testing.T) {
	for _, x := range []struct {
		k         int
		low, high int64
	}{{api.KInt, math.MinInt32, math.MaxInt32}, {api.KLong, least, most}} {
		undef := func(op int, a, b int64) { t.Helper(); wantTwo(t, op, a, x.k, b, x.k, 0, 0, api.ErrUndef) }
		is := func(op int, a, b, want int64) { t.Helper(); wantTwo(t, op, a, x.k, b, x.k, want, x.k, api.OK) }
		is(api.OAdd, x.high-1, 1, x.high)
		undef(api.OAdd, x.high, 1)
		undef(api.OAdd, x.high, x.high)
		is(api.OAdd, x.low+1, -1, x.low)
		undef(api.OAdd, x.low, -1)
		undef(api.OAdd, x.low, x.low)
		is(api.OAdd, x.low, x.high, -1)
		is(api.OSub, x.low, x.low, 0)
		is(api.OSub, -1, x.high, x.low)
		is(api.OSub, -1, x.low, x.high)
		undef(api.OSub, -2, x.high)
		undef(api.OSub, 0, x.low)
		undef(api.OSub, x.high, -1)
		is(api.OMul, x.low, 1, x.low)
		is(api.OMul, x.high, -1, -x.high)
		is(api.OMul, x.low/2, 2, x.low)
		undef(api.OMul, x.low/-2, 2)
		undef(api.OMul, x.low, -1)
		undef(api.OMul, -1, x.low)
		undef(api.OMul, x.low, x.low)
		undef(api.OMul, x.low, 2)
		undef(api.OMul, x.high, x.high)
		is(api.ODiv, x.low, 1, x.low)
		is(api.ODiv, x.low+1, -1, x.high)
		is(api.ODiv, x.low, x.low, 1)
		is(api.ODiv, x.high, x.low, 0)
		is(api.ODiv, x.low, x.high, -1)
		undef(api.ODiv, x.low, -1)
		is(api.OMod, x.low, x.high, -1)
		is(api.OMod, x.high, x.low, x.high)
		is(api.OMod, x.low, 1, 0)
		is(api.OMod, x.low, 2, 0)
		is(api.OMod, x.high, -1, 0)
		undef(api.OMod, x.low, -1)
		wantOne(t, api.ONeg, x.high, x.k, -x.high, x.k, api.OK)
		wantOne(t, api.ONeg, x.low+1, x.k, x.high, x.k, api.OK)
		wantOne(t, api.ONeg, x.low, x.k, 0, 0, api.ErrUndef)
		wantOne(t, api.OFlip, x.low, x.k, x.high, x.k, api.OK)
		wantOne(t, api.OFlip, x.high, x.k, x.low, x.k, api.OK)
	}
}

// P9.2: unsigned kinds go round, and those of 64 bits are handed about as numbers below 0.
func TestUnsigned(t *testing.T) {
	for _, x := range []struct {
		k    int
		high int64
		half int64 // 2 to one bit less than the kind has, as it is handed about
	}{{api.KUInt, math.MaxUint32, 1 << 31}, {api.KULong, -1, least}} {
		is := func(op int, a, b, want int64) { t.Helper(); wantTwo(t, op, a, x.k, b, x.k, want, x.k, api.OK) }
		asks := func(op int, a, b, want int64) { t.Helper(); wantTwo(t, op, a, x.k, b, x.k, want, api.KInt, api.OK) }
		is(api.OAdd, x.high, 1, 0)
		is(api.OAdd, x.high, x.high, x.high-1)
		is(api.OSub, 0, 1, x.high)
		is(api.OMul, x.high, x.high, 1)
		is(api.OMul, x.half, 2, 0)
		is(api.ODiv, x.high, x.high, 1)
		is(api.ODiv, x.half, x.high, 0)
		is(api.ODiv, x.high, x.half, 1)
		is(api.OMod, x.high, x.half, x.half-1)
		is(api.OMod, x.half, x.high, x.half)
		is(api.OMod, x.half, 10, 8)
		is(api.OXor, x.high, x.half, x.half-1)
		asks(api.OLess, x.half, 1, 0)
		asks(api.OLess, x.half-1, x.half, 1)
		asks(api.OLeq, x.high, 0, 0)
		asks(api.OLeq, x.high, x.high, 1)
		asks(api.OEq, x.high, x.high, 1)
		asks(api.ONeq, x.high, x.half, 1)
		wantOne(t, api.ONeg, 1, x.k, x.high, x.k, api.OK)
		wantOne(t, api.ONeg, x.half, x.k, x.half, x.k, api.OK)
		wantOne(t, api.OFlip, 0, x.k, x.high, x.k, api.OK)
		wantOne(t, api.ONot, x.half, x.k, 0, api.KInt, api.OK)
		for _, op := range []int{api.ODiv, api.OMod} {
			wantTwo(t, op, x.high, x.k, 0, x.k, 0, 0, api.ErrUndef)
			wantTwo(t, op, 0, x.k, 0, api.KChar, 0, 0, api.ErrUndef)
		}
	}
	wantTwo(t, api.ODiv, -1, api.KULong, 10, api.KInt, 1844674407370955161, api.KULong, api.OK)
	wantTwo(t, api.OMod, -1, api.KULong, 10, api.KInt, 5, api.KULong, api.OK)
	wantTwo(t, api.ODiv, least, api.KULong, -1, api.KInt, 0, api.KULong, api.OK)
	wantTwo(t, api.ODiv, -1, api.KInt, 2, api.KUInt, 2147483647, api.KUInt, api.OK)
	wantTwo(t, api.ODiv, -1, api.KLong, 2, api.KUInt, 0, api.KLong, api.OK)
}

// P9.2: what is undefined of shifts, and their ends: the first one's promoted kind counts, and the second one as it is.
func TestShifts(t *testing.T) {
	for _, a := range kinds {
		in := bareUsualOf(a, a)
		bits, signed := int64(bareKinds[in].bits), bareKinds[in].signed
		for _, b := range kinds {
			for _, by := range ends(b) {
				right := bareKinds[b].worth(by).Sign() >= 0 && bareKinds[b].worth(by).Cmp(bareKinds[in].worth(bits)) < 0
				if !right {
					wantTwo(t, api.OShl, 0, a, by, b, 0, 0, api.ErrUndef)
					wantTwo(t, api.OShr, 1, a, by, b, 0, 0, api.ErrUndef)
					continue
				}
				wantTwo(t, api.OShl, 0, a, by, b, 0, in, api.OK)
				if signed && by == bits-1 {
					wantTwo(t, api.OShl, 1, a, by, b, 0, 0, api.ErrUndef)
				} else {
					wantTwo(t, api.OShl, 1, a, by, b, 1<<by, in, api.OK)
				}
				if bareLies(-1, a) && signed {
					wantTwo(t, api.OShl, -1, a, by, b, 0, 0, api.ErrUndef)
					wantTwo(t, api.OShr, -1, a, by, b, -1, in, api.OK)
				}
			}
		}
	}
	wantTwo(t, api.OShl, -1, api.KChar, 0, api.KInt, 0, 0, api.ErrUndef)
	wantTwo(t, api.OShl, 255, api.KUChar, 23, api.KChar, 255<<23, api.KInt, api.OK)
	wantTwo(t, api.OShl, 255, api.KUChar, 24, api.KChar, 0, 0, api.ErrUndef)
	wantTwo(t, api.OShl, 3, api.KInt, 30, api.KULong, 0, 0, api.ErrUndef)
	wantTwo(t, api.OShl, 3, api.KUInt, 31, api.KULong, 1<<31, api.KUInt, api.OK)
	wantTwo(t, api.OShl, 1, api.KLong, 62, api.KInt, 1<<62, api.KLong, api.OK)
	wantTwo(t, api.OShl, -1, api.KULong, 63, api.KInt, least, api.KULong, api.OK)
	wantTwo(t, api.OShr, -1, api.KULong, 63, api.KInt, 1, api.KULong, api.OK)
	wantTwo(t, api.OShr, least, api.KLong, 63, api.KInt, -1, api.KLong, api.OK)
	wantTwo(t, api.OShr, -7, api.KShort, 1, api.KUChar, -4, api.KInt, api.OK)
	wantTwo(t, api.OShr, 8, api.KInt, 32, api.KLong, 0, 0, api.ErrUndef)
	wantTwo(t, api.OShr, 8, api.KLong, 32, api.KLong, 0, api.KLong, api.OK)
}

// P9.2: quotients are towards 0, remainders have the first one's sign.
func TestDivision(t *testing.T) {
	for _, k := range []int{api.KChar, api.KShort, api.KInt, api.KLong} {
		in := bareUsualOf(k, k)
		for _, x := range [][4]int64{{7, 2, 3, 1}, {-7, 2, -3, -1}, {7, -2, -3, 1}, {-7, -2, 3, -1}, {1, 2, 0, 1}, {-1, 2, 0, -1}, {0, -5, 0, 0}, {6, -3, -2, 0}} {
			wantTwo(t, api.ODiv, x[0], k, x[1], k, x[2], in, api.OK)
			wantTwo(t, api.OMod, x[0], k, x[1], k, x[3], in, api.OK)
		}
		for _, a := range ends(k) {
			wantTwo(t, api.ODiv, a, k, 0, k, 0, 0, api.ErrUndef)
			wantTwo(t, api.OMod, a, k, 0, k, 0, 0, api.ErrUndef)
		}
	}
	wantTwo(t, api.ODiv, -128, api.KChar, -1, api.KChar, 128, api.KInt, api.OK)
	wantTwo(t, api.OMod, -128, api.KChar, -1, api.KChar, 0, api.KInt, api.OK)
	wantTwo(t, api.ODiv, math.MinInt32, api.KInt, -1, api.KLong, 1<<31, api.KLong, api.OK)
	wantTwo(t, api.OMod, least, api.KLong, -1, api.KChar, 0, 0, api.ErrUndef)
}

// P9.2, P9.4: each operator of each pair of kinds, at their ends.
func TestTwo(t *testing.T) {
	undefined := 0
	for _, ak := range kinds {
		for _, bk := range kinds {
			for _, a := range ends(ak) {
				for _, b := range ends(bk) {
					for _, op := range twos {
						wantBareTwo(t, op, a, ak, b, bk)
						if _, _, e := arith.Two(op, a, ak, b, bk); e == api.ErrUndef {
							undefined++
						}
					}
				}
			}
		}
	}
	if undefined == 0 {
		t.Error("nothing is undefined")
	}
}

// P9.2: each operator of one, of each kind's ends, and of all numbers round those of 8 bits.
func TestOne(t *testing.T) {
	for _, op := range ones {
		for _, k := range kinds {
			for _, a := range ends(k) {
				wantBareOne(t, op, a, k)
			}
		}
		for a := int64(-300); a < 300; a++ {
			for _, k := range kinds {
				wantBareOne(t, op, a, k)
			}
		}
	}
	wantOne(t, api.OFlip, 255, api.KUChar, -256, api.KInt, api.OK)
	wantOne(t, api.ONot, 0, api.KChar, 1, api.KInt, api.OK)
	wantOne(t, api.ONot, -5, api.KLong, 0, api.KInt, api.OK)
	wantOne(t, api.ONeg, 65535, api.KUShort, -65535, api.KInt, api.OK)
}

// P9.3: by hand: nothing is promoted, all goes round.
func TestWrap(t *testing.T) {
	for _, x := range []struct {
		op, k      int
		a, b, want int64
	}{
		{api.OAdd, api.KUChar, 255, 1, 0},
		{api.OSub, api.KChar, -128, 1, 127},
		{api.OSub, api.KUShort, 0, 1, 65535},
		{api.OMul, api.KShort, 256, 128, -32768},
		{api.OMul, api.KLong, least, -1, least},
		{api.OMul, api.KLong, 1 << 40, 1 << 40, 0},
		{api.OAdd, api.KLong, most, 1, least},
		{api.ODiv, api.KChar, -128, -1, -128},
		{api.ODiv, api.KInt, math.MinInt32, -1, math.MinInt32},
		{api.ODiv, api.KLong, least, -1, least},
		{api.ODiv, api.KULong, least, -1, 0},
		{api.OMod, api.KChar, -128, -1, 0},
		{api.OMod, api.KLong, least, -1, 0},
		{api.OMod, api.KULong, least, -1, least},
		{api.ODiv, api.KLong, least, 0, 0},
		{api.OMod, api.KLong, least, 0, least},
		{api.ODiv, api.KULong, -1, 0, 0},
		{api.OMod, api.KULong, -1, 0, -1},
		{api.OMod, api.KChar, -7, 0, -7},
		{api.OShl, api.KChar, 1, 7, -128},
		{api.OShl, api.KChar, 1, 8, 1},
		{api.OShl, api.KChar, 3, 9, 6},
		{api.OShl, api.KChar, 1, -1, -128},
		{api.OShl, api.KChar, -3, 1, -6},
		{api.OShl, api.KChar, 1, -128, 1},
		{api.OShl, api.KUChar, 255, 7, 128},
		{api.OShl, api.KUChar, 255, 255, 128},
		{api.OShr, api.KChar, -128, 7, -1},
		{api.OShr, api.KChar, -128, -1, -1},
		{api.OShr, api.KUChar, 128, 7, 1},
		{api.OShr, api.KInt, -8, 33, -4},
		{api.OShl, api.KInt, 1, 31, math.MinInt32},
		{api.OShl, api.KInt, 5, 32, 5},
		{api.OShl, api.KLong, 1, 63, least},
		{api.OShl, api.KLong, least, 1, 0},
		{api.OShl, api.KLong, -5, 64, -5},
		{api.OShr, api.KLong, -1, least, -1},
		{api.OShr, api.KULong, -1, -1, 1},
		{api.OShr, api.KULong, -1, 64, -1},
		{api.OLess, api.KULong, -1, 1, 0},
		{api.OLess, api.KLong, -1, 1, 1},
		{api.OLess, api.KChar, -128, 127, 1},
		{api.OLeq, api.KUChar, 255, 255, 1},
		{api.OEq, api.KShort, -1, -1, 1},
		{api.ONeq, api.KShort, -1, -1, 0},
		{api.OAnd, api.KChar, -128, 127, 0},
		{api.OXor, api.KChar, -128, 127, -1},
		{api.OOr, api.KUChar, 128, 127, 255},
		{api.ONeg, api.KChar, -128, 0, -128},
		{api.ONeg, api.KUChar, 1, 0, 255},
		{api.ONeg, api.KLong, least, 0, least},
		{api.OFlip, api.KUChar, 5, 0, 250},
		{api.OFlip, api.KChar, 127, 0, -128},
		{api.OFlip, api.KULong, 0, 0, -1},
		{api.ONot, api.KUChar, 0, 0, 1},
		{api.ONot, api.KULong, least, 0, 0},
	} {
		wantWrap(t, x.op, x.k, x.a, x.b, x.want, api.OK)
	}
}

// P9.3: all values of the kinds of 8 bits, held against whole numbers that have room for all of it.
func TestWrapBytes(t *testing.T) {
	for _, k := range []int{api.KChar, api.KUChar} {
		low := int64(0)
		if k == api.KChar {
			low = -128
		}
		for a := low; a < low+256; a++ {
			for b := low; b < low+256; b++ {
				for _, op := range twos {
					if v, e := arith.Wrap(op, k, a, b); v != plainByte(op, low, a, b) || e != api.OK {
						t.Fatalf("of %d: %d %s %d: %d, %d", k, a, bareOps[op].sign, b, v, e)
					}
				}
			}
		}
	}
}

// plainByte is what an operator of two makes of numbers from low to low + 255.
func plainByte(op int, low, a, b int64) int64 {
	is := func(holds bool) int64 {
		if holds {
			return 1
		}
		return 0
	}
	n := int64(0)
	switch op {
	case api.OAdd:
		n = a + b
	case api.OSub:
		n = a - b
	case api.OMul:
		n = a * b
	case api.ODiv:
		if b != 0 {
			n = a / b
		}
	case api.OMod:
		n = a
		if b != 0 {
			n = a % b
		}
	case api.OShl:
		n = a << ((b + 256) % 8)
	case api.OShr:
		n = a >> ((b + 256) % 8)
	case api.OAnd:
		n = a & b
	case api.OXor:
		n = a ^ b
	case api.OOr:
		n = a | b
	case api.OLess:
		n = is(a < b)
	case api.OLeq:
		n = is(a <= b)
	case api.OEq:
		n = is(a == b)
	case api.ONeq:
		n = is(a != b)
	}
	for n < low {
		n += 256
	}
	return low + (n-low)%256
}

// P9.3: each kind's ends, each operator.
func TestWrapEnds(t *testing.T) {
	for _, k := range kinds {
		for _, a := range ends(k) {
			for _, b := range ends(k) {
				for _, op := range slices.Concat(twos, ones) {
					wantBareWrap(t, op, k, a, b)
				}
			}
		}
	}
}

// P9.3: of an operator of one the second number changes nothing, but is one of the kind.
func TestWrapOfOne(t *testing.T) {
	for _, k := range kinds {
		for _, op := range ones {
			for _, a := range ends(k) {
				v, _ := arith.Wrap(op, k, a, 0)
				for _, b := range ends(k) {
					wantWrap(t, op, k, a, b, v, api.OK)
				}
				for _, b := range outside(k) {
					wantWrap(t, op, k, a, b, 0, api.ErrKind)
				}
			}
		}
	}
}

// P9.2, P9.3: numbers that are no operator, or one of as many as are not asked for: that is told first.
func TestNoOperator(t *testing.T) {
	for _, k := range slices.Concat(kinds, noKinds) {
		for _, op := range slices.Concat(noOps, ones) {
			wantTwo(t, op, 1, k, 1, k, 0, 0, api.ErrArg)
			wantTwo(t, op, 1<<40, k, 0, 0, 0, 0, api.ErrArg)
		}
		for _, op := range slices.Concat(noOps, twos) {
			wantOne(t, op, 1, k, 0, 0, api.ErrArg)
			wantOne(t, op, 1<<40, k, 0, 0, api.ErrArg)
		}
		for _, op := range noOps {
			wantWrap(t, op, k, 1, 1, 0, api.ErrArg)
			wantWrap(t, op, k, 1<<40, least, 0, api.ErrArg)
		}
	}
}

// P9.2, P9.3: numbers that are no kind, ahead of what is undefined.
func TestNoKind(t *testing.T) {
	for _, no := range noKinds {
		for _, v := range []int64{0, 1, -1, least, most} {
			for _, op := range twos {
				for _, k := range slices.Concat(kinds, noKinds) {
					wantTwo(t, op, v, no, 0, k, 0, 0, api.ErrKind)
					wantTwo(t, op, 0, k, v, no, 0, 0, api.ErrKind)
				}
				wantWrap(t, op, no, v, v, 0, api.ErrKind)
			}
			for _, op := range ones {
				wantOne(t, op, v, no, 0, 0, api.ErrKind)
				wantWrap(t, op, no, v, 0, 0, api.ErrKind)
			}
		}
	}
}

// P9.2, P9.3: values that do not lie in their kind, as either of both, ahead of what is undefined.
func TestOutside(t *testing.T) {
	for _, k := range kinds {
		for _, v := range outside(k) {
			for _, op := range twos {
				for _, other := range kinds {
					wantTwo(t, op, v, k, 0, other, 0, 0, api.ErrKind)
					wantTwo(t, op, 1, other, v, k, 0, 0, api.ErrKind)
				}
				wantWrap(t, op, k, v, 0, 0, api.ErrKind)
				wantWrap(t, op, k, 0, v, 0, api.ErrKind)
			}
			for _, op := range ones {
				wantOne(t, op, v, k, 0, 0, api.ErrKind)
				wantWrap(t, op, k, v, 0, 0, api.ErrKind)
			}
		}
	}
}

// wantFollows holds what follows of two numbers.
func wantFollows(t *testing.T, a int64, ak int, b int64, bk int) {
	t.Helper()
	for _, op := range twos {
		v, k, e := arith.Two(op, a, ak, b, bk)
		if e != api.OK {
			continue
		}
		if is, e := arith.Result(op, ak, bk); is != k || e != api.OK {
			t.Errorf("%d of %d, %d: %d, and Result says %d", op, ak, bk, k, is)
		}
		in, _, _ := bareResult(op, ak, bk)
		first, _ := kind.To(a, in)
		second, _ := kind.To(b, in)
		wantWrap(t, op, in, first, second, v, api.OK)
	}
	for _, op := range []int{api.OAdd, api.OMul} {
		v, k, e := arith.Two(op, a, ak, b, bk)
		wantTwo(t, op, b, bk, a, ak, v, k, e)
	}
	if q, k, e := arith.Two(api.ODiv, a, ak, b, bk); e == api.OK {
		r, _, _ := arith.Two(api.OMod, a, ak, b, bk)
		product, _, _ := arith.Two(api.OMul, q, k, b, bk)
		dividend, _ := kind.To(a, k)
		wantTwo(t, api.OAdd, product, k, r, k, dividend, k, api.OK)
	}
	less, _, _ := arith.Two(api.OLess, a, ak, b, bk)
	wantTwo(t, api.OLeq, b, bk, a, ak, 1-less, api.KInt, api.OK)
	same, _, _ := arith.Two(api.OEq, a, ak, b, bk)
	wantTwo(t, api.ONeq, a, ak, b, bk, 1-same, api.KInt, api.OK)
	wantTwo(t, api.OLeq, a, ak, b, bk, less+same, api.KInt, api.OK)
}

// P9.4: each pair of kinds, at their ends.
func TestFollows(t *testing.T) {
	for _, ak := range kinds {
		for _, bk := range kinds {
			for _, a := range ends(ak) {
				for _, b := range ends(bk) {
					wantFollows(t, a, ak, b, bk)
				}
			}
		}
	}
}

// P9.4: likewise, of operators of one.
func TestOneFollows(t *testing.T) {
	for _, k := range kinds {
		for _, a := range ends(k) {
			for _, op := range ones {
				v, is, e := arith.One(op, a, k)
				in, result, _ := bareResult(op, k, 0)
				if e == api.OK && is != result {
					t.Errorf("%d of %d: %d", op, k, is)
				}
				if e == api.OK {
					first, _ := kind.To(a, in)
					wantWrap(t, op, in, first, 0, v, api.OK)
				}
			}
		}
	}
}

// P9.2, P9.3: bits of all sorts, made values of each pair of kinds.
func TestBits(t *testing.T) {
	seed := uint64(9)
	next := func(k int) int64 {
		seed = seed*6364136223846793005 + 1442695040888963407
		mixed := int64(seed^seed>>29) >> (seed >> 58)
		return bareKinds[k].handed(bareKinds[k].round(big.NewInt(mixed)))
	}
	for range 200 {
		for _, ak := range kinds {
			for _, bk := range kinds {
				a, b := next(ak), next(bk)
				for _, op := range twos {
					wantBareTwo(t, op, a, ak, b, bk)
					wantBareWrap(t, op, ak, a, next(ak))
				}
				wantFollows(t, a, ak, b, bk)
			}
		}
	}
}

// R1, R2: any numbers at all.
func FuzzAny(f *testing.F) {
	for i, v := range ends(api.KLong) {
		f.Add(i-3, v, i%11-1, -v, i%9, uint8(i))
	}
	f.Fuzz(func(t *testing.T, op int, a int64, ak int, b int64, bk int, near uint8) {
		for _, o := range []int{op, int(near) % 19} {
			for _, k := range []int{ak, 1 + int(near)%8} {
				if sign := bareOps[o].sign; arith.Sign(o) != sign || arith.Binary(o) != (bareOps[o].of == 2) {
					t.Error(o, arith.Sign(o), arith.Binary(o))
				}
				_, is, e := bareResult(o, k, bk)
				wantResult(t, o, k, bk, is, e)
				wantBareTwo(t, o, a, k, b, bk)
				wantBareTwo(t, o, b, bk, a, k)
				wantBareOne(t, o, a, k)
				wantBareWrap(t, o, k, a, b)
			}
		}
	})
}

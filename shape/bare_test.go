package shape_test

import (
	"math/big"

	"burin/api"
)

// A second reading of the chapter, for tests to hold the first one against: what may not be is listed, a member's place is sought bit by bit, and sizes have no bounds.

var bareBits = map[int]int{
	api.KChar: 8, api.KUChar: 8, api.KShort: 16, api.KUShort: 16, api.KInt: 32, api.KUInt: 32, api.KLong: 64, api.KULong: 64,
}

var bareAligns = map[int64]int{0: 1, 1: 1, 2: 1, 4: 1, 8: 1, 16: 1, 32: 1, 64: 1}

// bareDeep is how deep a type is.
func bareDeep(t api.Type) int {
	most := 0
	for _, of := range t.Of {
		most = max(most, bareDeep(of))
	}
	for _, f := range t.Fields {
		most = max(most, bareDeep(f.T))
	}
	return most + 1
}

// bareRight tells whether a type is right, however deep it is.
func bareRight(t api.Type) bool {
	rest := t
	rest.Shape = 0
	ok := true
	switch t.Shape {
	case api.SInt:
		rest.K = 0
		ok = bareBits[t.K] != 0
	case api.SPtr:
	case api.SArray:
		rest.N, rest.Of = 0, nil
		ok = t.N > 0 && len(t.Of) == 1 && bareRight(t.Of[0])
	case api.SStruct, api.SUnion:
		rest.Fields, rest.Packed, rest.Align = nil, false, 0
		ok = len(t.Fields) <= 40 && bareAligns[t.Align] == 1 && bareNames(t.Fields)
		for _, f := range t.Fields {
			ok = ok && bareRight(f.T) && bareField(f)
		}
	default:
		return false
	}
	return ok && rest.K == 0 && rest.N == 0 && len(rest.Of) == 0 && len(rest.Fields) == 0 && !rest.Packed && rest.Align == 0
}

func bareNames(l []api.Field) bool {
	some := false
	for i, f := range l {
		for k, g := range l {
			if i != k && f.Name == g.Name && f.Name != "" {
				return false
			}
		}
		some = some || f.Name != ""
	}
	return some
}

func bareField(f api.Field) bool {
	if f.Bits < 0 {
		return f.Name != ""
	}
	return f.T.Shape == api.SInt && f.Bits <= bareBits[f.T.K] && (f.Bits > 0 || f.Name == "")
}

// bareSize is a right type's size without bounds, and its alignment; nil, if one within it is too big.
func bareSize(t api.Type) (*big.Int, int64) {
	most := big.NewInt(65536)
	var size *big.Int
	var align int64
	switch t.Shape {
	case api.SInt:
		align = int64(bareBits[t.K] / 8)
		size = big.NewInt(align)
	case api.SPtr:
		size, align = big.NewInt(8), 8
	case api.SArray:
		var of *big.Int
		if of, align = bareSize(t.Of[0]); of != nil {
			size = of.Mul(of, big.NewInt(t.N))
		}
	default:
		size, align = bareWhole(t)
	}
	if size != nil && size.Cmp(most) > 0 {
		return nil, align
	}
	return size, align
}

// bareWhole is a struct's or union's size and alignment.
func bareWhole(t api.Type) (*big.Int, int64) {
	align := max(t.Align, 1)
	for _, f := range t.Fields {
		size, own := bareSize(f.T)
		if size == nil {
			return nil, 1
		}
		if !t.Packed && f.Name != "" {
			align = max(align, own)
		}
	}
	size := int64(0)
	for _, s := range barePlaces(t) {
		for size*8 < s.Bit+s.Bits || size%align != 0 {
			size++
		}
	}
	return big.NewInt(size), align
}

// barePlaces are where the members of a type lie, each at the first bit from the end of the one ahead at which it may.
func barePlaces(t api.Type) []api.Spot {
	var l []api.Spot
	bit := int64(0)
	for _, f := range t.Fields {
		size, align := bareSize(f.T)
		bits := 8 * size.Int64()
		may := func() bool { return bit%(8*align) == 0 || t.Packed && bit%8 == 0 }
		if f.Bits >= 0 {
			unit := bits
			bits = int64(f.Bits)
			may = func() bool { return t.Packed || bareWithin(bit, bits, unit) }
			if f.Bits == 0 {
				may = func() bool { return bit%unit == 0 }
			}
		}
		if t.Shape == api.SUnion {
			bit = 0
		}
		for !may() {
			bit++
		}
		l = append(l, api.Spot{Bit: bit, Bits: bits, K: f.T.K})
		bit += bits
	}
	return l
}

// bareWithin tells whether no multiple of the unit has bits on both sides.
func bareWithin(bit, bits, unit int64) bool {
	for b := bit + 1; b < bit+bits; b++ {
		if b%unit == 0 {
			return false
		}
	}
	return true
}

func bareErrno(t api.Type) api.Errno {
	if bareDeep(t) > 6 || !bareRight(t) {
		return api.ErrShape
	}
	if size, _ := bareSize(t); size == nil {
		return api.ErrBig
	}
	return api.OK
}

// bareCount is how many numbers there are in a right type.
func bareCount(t api.Type) int64 {
	switch t.Shape {
	case api.SArray:
		return t.N * bareCount(t.Of[0])
	case api.SStruct, api.SUnion:
		n := int64(0)
		for _, f := range t.Fields {
			if f.Bits != 0 {
				n += bareCount(f.T)
			}
		}
		return n
	}
	return 1
}

// bareLeaves are the numbers of a right type, each as deep as it lies put together from those within.
func bareLeaves(t api.Type) []api.Spot {
	var l []api.Spot
	behind := func(bit int64, inner []api.Spot) {
		for _, s := range inner {
			l = append(l, api.Spot{Bit: bit + s.Bit, Bits: s.Bits, K: s.K})
		}
	}
	switch t.Shape {
	case api.SInt:
		return []api.Spot{{Bits: int64(bareBits[t.K]), K: t.K}}
	case api.SPtr:
		return []api.Spot{{Bits: 64, K: api.KULong}}
	case api.SArray:
		size, _ := bareSize(t.Of[0])
		inner := bareLeaves(t.Of[0])
		for i := range t.N {
			behind(i*8*size.Int64(), inner)
		}
		return l
	}
	for i, s := range barePlaces(t) {
		switch f := t.Fields[i]; {
		case f.Bits < 0:
			behind(s.Bit, bareLeaves(f.T))
		case f.Bits > 0:
			l = append(l, s)
		}
	}
	return l
}

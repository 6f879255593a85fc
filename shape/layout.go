package shape

import (
	"iter"

	"burin/api"
	"burin/kind"
)

const pointerSize = 8

// tooBig stands for all sizes above MaxSize, so that none is too great to be reckoned with.
const tooBig = api.MaxSize + 1

// extent is what a type takes, in bytes.
type extent struct {
	size  int64
	align int64
}

// measure is what a right type takes; its size is tooBig at most.
func measure(t api.Type) extent {
	switch t.Shape {
	case api.SInt:
		n := int64(kind.Size(t.K))
		return extent{n, n}
	case api.SPtr:
		return extent{pointerSize, pointerSize}
	case api.SArray:
		of := measure(t.Of[0])
		return extent{min(min(t.N, tooBig)*of.size, tooBig), of.align}
	}
	return measureMembers(t)
}

func measureMembers(t api.Type) extent {
	end, align := int64(0), max(1, t.Align)
	for m := range members(t) {
		end = max(end, m.spot.Bit+m.spot.Bits)
		align = max(align, m.align)
	}
	return extent{min(up(up(end, 8)/8, align), tooBig), align}
}

// up is the next multiple, from n on.
func up(n, of int64) int64 { return (n + of - 1) / of * of }

// member is one of a struct or union: where it lies, and to what it aligns the whole.
type member struct {
	field api.Field
	spot  api.Spot
	align int64
}

// members yields those of a right struct or union, in order.
func members(t api.Type) iter.Seq[member] {
	return func(yield func(member) bool) {
		end := int64(0)
		for _, f := range t.Fields {
			m := lay(f, end, t.Packed)
			if !yield(m) {
				return
			}
			if t.Shape == api.SStruct { // in a union each one begins where the first one does
				end = m.spot.Bit + m.spot.Bits
			}
		}
	}
}

// lay puts a member behind the bits that are taken.
func lay(f api.Field, end int64, packed bool) member {
	e := measure(f.T)
	if f.Bits >= 0 {
		return layBits(f, end, 8*e.size, packed)
	}
	if packed {
		e.align = 1
	}
	return member{f, api.Spot{Bit: up(end, 8*e.align), Bits: 8 * e.size, K: f.T.K}, e.align}
}

// layBits does so with a bit-field whose type has so many bits.
func layBits(f api.Field, end, unit int64, packed bool) member {
	m := member{f, api.Spot{Bit: end, Bits: int64(f.Bits), K: f.T.K}, 1}
	if f.Name != "" && !packed {
		m.align = unit / 8
	}
	crosses := end/unit != (end+m.spot.Bits-1)/unit
	if f.Bits == 0 || crosses && !packed {
		m.spot.Bit = up(end, unit)
	}
	return m
}

// leaves yields the numbers and pointers of a right type, in order.
func leaves(t api.Type) iter.Seq[api.Spot] {
	return func(yield func(api.Spot) bool) { walk(t, 0, yield) }
}

// walk yields those of a type that begins at a bit, and tells whether more are wanted.
func walk(t api.Type, from int64, yield func(api.Spot) bool) bool {
	switch t.Shape {
	case api.SInt:
		return yield(api.Spot{Bit: from, Bits: 8 * measure(t).size, K: t.K})
	case api.SPtr:
		return yield(api.Spot{Bit: from, Bits: 8 * pointerSize, K: api.KULong})
	case api.SArray:
		step := 8 * measure(t.Of[0]).size
		for i := range t.N {
			if !walk(t.Of[0], from+i*step, yield) {
				return false
			}
		}
		return true
	}
	for m := range members(t) {
		if !walkMember(m, from, yield) {
			return false
		}
	}
	return true
}

func walkMember(m member, from int64, yield func(api.Spot) bool) bool {
	s := m.spot
	s.Bit += from
	switch {
	case m.field.Bits == 0:
		return true
	case m.field.Bits > 0:
		return yield(s)
	}
	return walk(m.field.T, s.Bit, yield)
}

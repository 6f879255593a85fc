package image_test

import (
	"math/big"
	"slices"

	"burin/api"
	"burin/shape"
)

// A second reading of the chapter, for tests to hold the first one against: an image is a list of bits, numbers have no bounds, and which member was led through last is sought in the sets ahead.

type bareNode struct {
	t    api.Type
	bit  int64
	bits int64
}

// bareAt is what lies at a path's end, a number or not; false, if nothing does.
func bareAt(t api.Type, path []int) (bareNode, bool) {
	size, _, _ := shape.Size(t)
	here := bareNode{t, 0, 8 * size}
	for _, step := range path {
		steps := bareParts(here.t)
		if step < 0 || step >= len(steps) || steps[step].bits == 0 {
			return bareNode{}, false
		}
		next := steps[step]
		here = bareNode{next.t, here.bit + next.bit, next.bits}
	}
	return here, true
}

// bareParts are all that a step may lead to.
func bareParts(t api.Type) []bareNode {
	var l []bareNode
	for i := range t.N {
		size, _, _ := shape.Size(t.Of[0])
		l = append(l, bareNode{t.Of[0], i * size * 8, size * 8})
	}
	spots, _ := shape.Members(t)
	for i, s := range spots {
		l = append(l, bareNode{t.Fields[i].T, s.Bit, s.Bits})
	}
	return l
}

func bareSpot(t api.Type, path []int) (api.Spot, api.Errno) {
	if e := shape.Right(t); e != api.OK {
		return api.Spot{}, e
	}
	n, ok := bareAt(t, path)
	switch {
	case ok && n.t.Shape == api.SInt:
		return api.Spot{Bit: n.bit, Bits: n.bits, K: n.t.K}, api.OK
	case ok && n.t.Shape == api.SPtr:
		return api.Spot{Bit: n.bit, Bits: 64, K: 8}, api.OK
	}
	return api.Spot{}, api.ErrPath
}

// bareImage is one entry a bit, 0 or 1.
type bareImage []uint

func bareOpen(s string) bareImage {
	var l bareImage
	for i := range len(s) {
		for k := range 8 {
			l = append(l, uint(s[i])>>k%2)
		}
	}
	return l
}

func (l bareImage) bytes() string {
	var b []byte
	for eight := range slices.Chunk(l, 8) {
		n := uint(0)
		for i := 7; i >= 0; i-- {
			n = 2*n + eight[i]
		}
		b = append(b, byte(n))
	}
	return string(b)
}

func power(n int64) *big.Int { return new(big.Int).Lsh(big.NewInt(1), uint(n)) }

// write takes a value as what is left of it when it is divided by 2 to the spot's bits.
func (l bareImage) write(s api.Spot, v int64) {
	left := new(big.Int).Mod(big.NewInt(v), power(s.Bits))
	for i := range s.Bits {
		l[s.Bit+i] = left.Bit(int(i))
	}
}

// read is a number as int64s are handed about.
func (l bareImage) read(s api.Spot) int64 {
	n := new(big.Int)
	for i := range s.Bits {
		n.SetBit(n, int(i), l[s.Bit+i])
	}
	signed := s.K == api.KChar || s.K == api.KShort || s.K == api.KInt || s.K == api.KLong
	if signed && l[s.Bit+s.Bits-1] == 1 {
		n.Sub(n, power(s.Bits))
	}
	if n.IsUint64() {
		return int64(n.Uint64())
	}
	return n.Int64()
}

// bareLast is the member by which the last one of the sets led through what lies at a path; -1, if none did.
func bareLast(l []api.Set, path []int) int {
	for _, set := range slices.Backward(l) {
		if len(set.Path) > len(path) && slices.Equal(set.Path[:len(path)], path) {
			return set.Path[len(path)]
		}
	}
	return -1
}

func bareMake(t api.Type, l []api.Set) (string, api.Errno, int) {
	size, _, e := shape.Size(t)
	if e != api.OK {
		return "", e, 0
	}
	image := make(bareImage, 8*size)
	for i, set := range l {
		s, e := bareSpot(t, set.Path)
		if e != api.OK {
			return "", e, i
		}
		for k, step := range set.Path {
			n, _ := bareAt(t, set.Path[:k])
			last := bareLast(l[:i], set.Path[:k])
			if n.t.Shape == api.SUnion && last >= 0 && last != step {
				clear(image[n.bit : n.bit+n.bits])
			}
		}
		image.write(s, set.V)
	}
	return image.bytes(), api.OK, 0
}

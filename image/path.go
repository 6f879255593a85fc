package image

import (
	"burin/api"
	"burin/shape"
)

// node is a type, or one within it, or a bit-field. What lies within it in turn is asked of shape when a path first leads there, so that of many sets each one costs its steps alone.
type node struct {
	t     api.Type
	bit   int64 // where it begins in what it is a part of
	bits  int64
	parts []node // those of an array are all alike: the first one stands for them
}

// begin is the node of a whole type, or shape.Right's error.
func begin(t api.Type) (*node, api.Errno) {
	size, _, errno := shape.Size(t)
	if errno != api.OK {
		return nil, errno
	}
	return &node{t: t, bits: 8 * size}, api.OK
}

func (n *node) size() int64 { return n.bits / 8 }

// element is that of an array, and its first bit; nil, if there is none.
func (n *node) element(at int) (*node, int64) {
	if at < 0 || int64(at) >= n.t.N {
		return nil, 0
	}
	if n.parts == nil {
		n.parts = []node{{t: n.t.Of[0], bits: n.bits / n.t.N}}
	}
	first := &n.parts[0]
	return first, int64(at) * first.bits
}

// member is that of a struct or union, and its first bit; nil, if there is none, or one without bits.
func (n *node) member(at int) (*node, int64) {
	if at < 0 || at >= len(n.t.Fields) || n.t.Fields[at].Bits == 0 {
		return nil, 0
	}
	if n.parts == nil {
		n.parts = members(n.t)
	}
	return &n.parts[at], n.parts[at].bit
}

// members are those of a type within a right one: that is right too, so that shape tells no error.
func members(t api.Type) []node {
	spots, _ := shape.Members(t)
	l := make([]node, 0, len(spots))
	for i, s := range spots {
		l = append(l, node{t: t.Fields[i].T, bit: s.Bit, bits: s.Bits})
	}
	return l
}

// number is the spot of a node that begins at a bit of the whole; false, if it is no number.
func (n *node) number(from int64) (api.Spot, bool) {
	switch n.t.Shape {
	case api.SInt:
		return api.Spot{Bit: from, Bits: n.bits, K: n.t.K}, true
	case api.SPtr:
		return api.Spot{Bit: from, Bits: n.bits, K: api.KULong}, true
	}
	return api.Spot{}, false
}

// stop is what a path comes through: the bit of the whole at which it begins, and the step that leads on from it.
type stop struct {
	of   *node
	from int64
	step int
}

// follow goes a path, and tells what it comes through and what it leads to; false, if that is no number.
func follow(whole *node, path []int) ([]stop, api.Spot, bool) {
	var stops []stop
	here, from := whole, int64(0)
walking:
	for _, step := range path {
		var next *node
		var bit int64
		switch here.t.Shape {
		case api.SArray:
			next, bit = here.element(step)
		case api.SStruct, api.SUnion:
			next, bit = here.member(step)
		default:
			break walking
		}
		if next == nil {
			break walking
		}
		stops = append(stops, stop{here, from, step})
		here, from = next, from+bit
	}
	if len(stops) < len(path) {
		return nil, api.Spot{}, false
	}
	spot, leads := here.number(from)
	return stops, spot, leads
}

package class_test

import (
	"slices"

	"burin/api"
	"burin/shape"
)

// A second reading of the chapter, for tests to hold the first one against: bits are looked at one by one, registers are taken off a list, and the stack's next place is sought byte by byte.

var bareBits = []int64{0, 8, 8, 16, 16, 32, 32, 64, 64}

func bareErrno(t api.Type) api.Errno {
	if e := shape.Right(t); e != api.OK {
		return e
	}
	if t.Shape == api.SArray {
		return api.ErrArg
	}
	_, e := shape.Leaves(t)
	return e
}

// bareMultiple tells whether a bit is one of those that so many bits, put one behind the other from 0 on, begin at.
func bareMultiple(bit, bits int64) bool {
	at := int64(0)
	for at < bit {
		at += bits
	}
	return at == bit
}

func bareClasses(t api.Type) ([]int, api.Errno) {
	if e := bareErrno(t); e != api.OK {
		return nil, e
	}
	size, _, _ := shape.Size(t)
	numbers, _ := shape.Leaves(t)
	if size > 16 {
		return []int{2}, api.OK
	}
	l := make([]int, (size+7)/8)
	for _, s := range numbers {
		if s.Bits == bareBits[s.K] && !bareMultiple(s.Bit, s.Bits) {
			return []int{2}, api.OK
		}
		for bit := s.Bit; bit < s.Bit+s.Bits; bit++ {
			l[bit/64] = 1
		}
	}
	return l, api.OK
}

// bareCall is what is left of the registers, and how many bytes lie on the stack.
type bareCall struct {
	free []int
	end  int64
	l    []api.Loc
}

func (c *bareCall) hand(arg int, t api.Type) {
	classes, _ := bareClasses(t)
	size, align, _ := shape.Size(t)
	var wanted []int
	for i, class := range classes {
		if class == 1 {
			wanted = append(wanted, i)
		}
	}
	if classes[0] != 2 && len(wanted) <= len(c.free) {
		for _, i := range wanted {
			c.l = append(c.l, api.Loc{Arg: arg, Eight: i, Reg: c.free[0]})
			c.free = c.free[1:]
		}
		return
	}
	for !bareMultiple(c.end, 8) || !bareMultiple(c.end, align) {
		c.end++
	}
	begin := c.end
	for i := 0; c.end < begin+size; i++ {
		c.l = append(c.l, api.Loc{Arg: arg, Eight: i, Reg: -1, Off: c.end})
		c.end += 8
	}
}

func barePass(args []api.Type, ret api.Type) ([]api.Loc, int64, api.Errno) {
	if len(args) > 16 {
		return nil, 0, api.ErrArg
	}
	nothing := shape.Same(ret, api.Type{})
	all := slices.Clone(args)
	if !nothing {
		all = append(all, ret)
	}
	for _, t := range all {
		if e := bareErrno(t); e != api.OK {
			return nil, 0, e
		}
	}
	c := bareCall{free: []int{0, 1, 2, 3, 4, 5}}
	if classes, _ := bareClasses(ret); !nothing && classes[0] == 2 {
		c.hand(-1, pointer)
	}
	for i, t := range args {
		c.hand(i, t)
	}
	for !bareMultiple(c.end, 16) {
		c.end++
	}
	return c.l, c.end, api.OK
}

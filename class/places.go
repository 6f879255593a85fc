package class

import "burin/api"

// registers are how many there are for arguments.
const registers = 6

// onStack stands for a register, where there is none.
const onStack = -1

// stackStep is what the stack's bytes are a multiple of at a call.
const stackStep = 16

// writtenTo is the argument ahead of all others: where what comes back is to be written.
const writtenTo = -1

// places are those that arguments have so far.
type places struct {
	l     []api.Loc
	used  int   // registers, from 0 on
	stack int64 // bytes
}

// put finds a place for the next argument.
func (p *places) put(arg int, v value) {
	if p.fits(v) {
		p.putInRegisters(arg, v)
	} else {
		p.putOnStack(arg, v)
	}
}

// fits tells whether the registers that are left take all of it: no argument is parted between them and the stack.
func (p *places) fits(v value) bool {
	left := registers - p.used
	fits := true
taking:
	for _, class := range v.classes {
		switch class {
		case api.CMemory:
			fits = false
			break taking
		case api.CInteger:
			left--
			if left < 0 {
				fits = false
				break taking
			}
		}
	}
	return fits
}

func (p *places) putInRegisters(arg int, v value) {
	for i, class := range v.classes {
		if class == api.CInteger {
			p.l = append(p.l, api.Loc{Arg: arg, Eight: i, Reg: p.used})
			p.used++
		}
	}
}

func (p *places) putOnStack(arg int, v value) {
	begin := up(p.stack, max(eight, v.align))
	for i, from := range eights(v.size) {
		p.l = append(p.l, api.Loc{Arg: arg, Eight: i, Reg: onStack, Off: begin + from})
	}
	p.stack = begin + up(v.size, eight)
}

// up is the next multiple, from n on.
func up(n, of int64) int64 { return (n + of - 1) / of * of }

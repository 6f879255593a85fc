package run

import (
	"iter"

	"burin/api"
	"burin/arith"
	"burin/kind"
)

// value tells what an expression is, and whether the run goes on.
func (c *frame) value(e *api.Expr) (int64, bool) {
	switch e.Is {
	case api.EInt:
		return e.V, true
	case api.EVar:
		v, there := c.vars[e.Name]
		return v, there || c.stop(api.ErrUndef)
	case api.ECall:
		return c.called(e)
	case api.ECond:
		return c.chosen(e)
	case api.EAnd, api.EOr:
		return c.both(e)
	case api.ETwo:
		return c.two(e)
	}
	v, ok := c.value(&e.L[0])
	if !ok {
		return 0, false
	}
	if e.Is == api.ECast {
		v, _ = kind.To(v, e.K)
		return v, true
	}
	v, _, errno := arith.One(e.Op, v, e.L[0].K)
	return c.defined(v, errno)
}

// defined tells what an operator made, or ends the run where that is undefined.
func (c *frame) defined(v int64, errno api.Errno) (int64, bool) {
	return v, errno == api.OK || c.stop(errno)
}

func (c *frame) two(e *api.Expr) (int64, bool) {
	a, ok := c.value(&e.L[0])
	if !ok {
		return 0, false
	}
	b, ok := c.value(&e.L[1])
	if !ok {
		return 0, false
	}
	v, _, errno := arith.Two(e.Op, a, e.L[0].K, b, e.L[1].K)
	return c.defined(v, errno)
}

// both is an EAnd or an EOr: where its first part says it all, the second one isn't reckoned.
func (c *frame) both(e *api.Expr) (int64, bool) {
	v, ok := c.value(&e.L[0])
	if ok && (v != 0) == (e.Is == api.EAnd) {
		v, ok = c.value(&e.L[1])
	}
	switch {
	case !ok:
		return 0, false
	case v != 0:
		return 1, true
	}
	return 0, true
}

func (c *frame) chosen(e *api.Expr) (int64, bool) {
	v, ok := c.value(&e.L[0])
	switch {
	case !ok:
		return 0, false
	case v != 0:
		return c.value(&e.L[1])
	}
	return c.value(&e.L[2])
}

func (c *frame) called(e *api.Expr) (int64, bool) {
	args, ok := c.arguments(e.L)
	if !ok {
		return 0, false
	}
	return c.call(c.funcs[e.Name], args)
}

// arguments are the values of a call's parts, if the run goes on behind all of them.
func (c *frame) arguments(l []api.Expr) ([]int64, bool) {
	var args []int64
	all := true
reckoning:
	for v, ok := range c.values(l) {
		if !ok {
			all = false
			break reckoning
		}
		args = append(args, v)
	}
	return args, all
}

// values goes through what expressions are, each one reckoned as it is asked for.
func (c *frame) values(l []api.Expr) iter.Seq2[int64, bool] {
	return func(yield func(int64, bool) bool) {
		for i := range l {
			if !yield(c.value(&l[i])) {
				return
			}
		}
	}
}

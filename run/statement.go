package run

import "burin/api"

// frame is a call of a function with a body: its variables that have a value, and what it gives back.
type frame struct {
	*runner
	vars map[string]int64
	back int64
}

// ending is what a statement ends with.
type ending int

const (
	onward    ending = iota // the next one is done
	broken                  // the XWhile round it is left
	continued               // the XWhile round it asks its condition
	returned                // the call is at its end
	stopped                 // the run is
)

// list does statements, up to the first one behind which the next one isn't done.
func (c *frame) list(l []api.Stmt) ending {
	for i := range l {
		if end := c.statement(&l[i]); end != onward {
			return end
		}
	}
	return onward
}

func (c *frame) statement(s *api.Stmt) ending {
	if !c.step() {
		return stopped
	}
	switch s.Is {
	case api.XDecl, api.XSet:
		return c.set(s)
	case api.XIf:
		return c.choose(s)
	case api.XWhile:
		return c.loop(s)
	case api.XReturn:
		return c.leave(s)
	case api.XBreak:
		return broken
	case api.XContinue:
		return continued
	case api.XBlock:
		return c.list(s.L)
	}
	return c.reckon(s)
}

// reckon reckons an XCall's expression for what it does.
func (c *frame) reckon(s *api.Stmt) ending {
	if _, ok := c.value(&s.E[0]); !ok {
		return stopped
	}
	return onward
}

// set gives a variable its value; an XDecl that has none takes away one of an earlier turn.
func (c *frame) set(s *api.Stmt) ending {
	if len(s.E) == 0 {
		delete(c.vars, s.Name)
		return onward
	}
	v, ok := c.value(&s.E[0])
	if !ok {
		return stopped
	}
	c.vars[s.Name] = v
	return onward
}

func (c *frame) choose(s *api.Stmt) ending {
	v, ok := c.value(&s.E[0])
	switch {
	case !ok:
		return stopped
	case v == 0:
		return c.list(s.M)
	}
	return c.list(s.L)
}

func (c *frame) loop(s *api.Stmt) ending {
	for c.step() {
		v, ok := c.value(&s.E[0])
		switch {
		case !ok:
			return stopped
		case v == 0:
			return onward
		}
		switch end := c.list(s.L); end {
		case broken:
			return onward
		case returned, stopped:
			return end
		}
	}
	return stopped
}

func (c *frame) leave(s *api.Stmt) ending {
	if len(s.E) == 0 {
		return returned
	}
	v, ok := c.value(&s.E[0])
	if !ok {
		return stopped
	}
	c.back = v
	return returned
}

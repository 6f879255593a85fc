package unit

import (
	"slices"

	"burin/api"
	"burin/expr"
)

// mostArgs is how many parameters a function may have.
const mostArgs = 8

// checker tells the kinds of one function, or the first fault in it.
type checker struct {
	f     *api.Func
	known []api.Func          // those ahead
	sigs  []api.Sig           // of those that may be called
	taken map[string]struct{} // the names of all variables that were met
	there []api.Var           // the variables that are there
	deeps []int               // how deep the lists are in which these stand
}

func newChecker(known []api.Func, f *api.Func) *checker {
	c := &checker{f: f, known: known, taken: map[string]struct{}{}}
	for _, k := range known {
		c.sigs = append(c.sigs, k.Sig)
	}
	c.sigs = append(c.sigs, f.Sig)
	return c
}

func (c *checker) function() fault {
	if len(c.f.Sig.Args) > mostArgs {
		return fault{api.ErrCalls, c.f.Line}
	}
	if errno := c.again(); errno != api.OK {
		return fault{errno, c.f.Line}
	}
	for _, a := range c.f.Sig.Args {
		if c.isTaken(a.Name) {
			return fault{api.ErrName, c.f.Line}
		}
		c.put(a, 0)
	}
	return c.body()
}

// again holds the function against those of its name that are known.
func (c *checker) again() api.Errno {
	had := false
	for _, k := range c.known {
		if k.Sig.Name != c.f.Sig.Name {
			continue
		}
		if k.Sig.Ret != c.f.Sig.Ret || !slices.EqualFunc(k.Sig.Args, c.f.Sig.Args, sameKind) {
			return api.ErrCalls
		}
		had = had || k.Has
	}
	if had && c.f.Has {
		return api.ErrName
	}
	return api.OK
}

func sameKind(a, b api.Var) bool { return a.K == b.K }

func (c *checker) isTaken(name string) bool {
	_, taken := c.taken[name]
	return taken
}

func (c *checker) put(v api.Var, deep int) {
	c.taken[v.Name] = struct{}{}
	c.there, c.deeps = append(c.there, v), append(c.deeps, deep)
}

// leave forgets the variables of lists that are at their end where a statement stands.
func (c *checker) leave(at spot) {
	n := len(c.there)
	for n > 0 && (c.deeps[n-1] > at.deep || c.deeps[n-1] == at.deep && at.first) {
		n--
	}
	c.there, c.deeps = c.there[:n], c.deeps[:n]
}

func (c *checker) body() fault {
	var bad fault
going:
	for s, at := range within(c.f.Body) {
		c.leave(at)
		errno, line := c.statement(s, at)
		switch {
		case errno != api.OK:
			bad = fault{errno, line}
			break going
		case s.Is == api.XDecl:
			c.put(api.Var{Name: s.Name, K: s.K}, at.deep)
		}
	}
	return bad
}

// statement tells the kinds of a statement's own expression.
func (c *checker) statement(s *api.Stmt, at spot) (api.Errno, int) {
	if s.Is == api.XDecl && c.isTaken(s.Name) {
		return api.ErrName, s.Line
	}
	for i := range s.E {
		e, errno, line := expr.Typed(s.E[i], c.there, c.sigs)
		if errno != api.OK {
			return errno, line
		}
		if e.K == api.KVoid && s.Is != api.XCall {
			return api.ErrCalls, s.Line
		}
		s.E[i] = e
	}
	return c.asked(s, at), s.Line
}

// asked tells whether a statement is what its place asks for, and casts its expression to the kind that is asked for.
func (c *checker) asked(s *api.Stmt, at spot) api.Errno {
	switch s.Is {
	case api.XDecl:
		castTo(s.E, s.K)
	case api.XSet:
		i := slices.IndexFunc(c.there, func(v api.Var) bool { return v.Name == s.Name })
		if i < 0 {
			return api.ErrName
		}
		castTo(s.E, c.there[i].K)
	case api.XCall:
		if s.E[0].Is != api.ECall {
			return api.ErrUnit
		}
	case api.XReturn:
		if (len(s.E) > 0) != (c.f.Sig.Ret != api.KVoid) {
			return api.ErrCalls
		}
		castTo(s.E, c.f.Sig.Ret)
	case api.XBreak, api.XContinue:
		if !at.loop {
			return api.ErrUnit
		}
	}
	return api.OK
}

// castTo makes each expression of another kind one of a kind.
func castTo(l []api.Expr, k int) {
	for i, e := range l {
		if e.K != k {
			l[i] = api.Expr{Is: api.ECast, K: k, L: []api.Expr{e}, Line: e.Line}
		}
	}
}

package expr

import (
	"slices"

	"burin/api"
	"burin/arith"
	"burin/kind"
)

// names are the variables and functions that there are.
type names struct {
	vars []api.Var
	sigs []api.Sig
}

// typed is an expression of which all kinds are told, or the error and the part that has it.
func (n *names) typed(e api.Expr) (api.Expr, api.Errno) {
	var l []api.Expr
	for _, part := range e.L {
		told, errno := n.typed(part)
		if errno == api.OK && told.K == api.KVoid {
			errno = api.ErrCalls
		}
		if errno != api.OK {
			return told, errno
		}
		l = append(l, told)
	}
	e.L = l
	errno := n.tell(&e)
	return e, errno
}

// tell tells an expression's kind, whose parts have theirs, and casts these where it asks for others.
func (n *names) tell(e *api.Expr) (errno api.Errno) {
	switch e.Is {
	case api.EVar:
		e.K, errno = n.variable(e.Name)
	case api.EOne:
		e.K, errno = arith.Result(e.Op, e.L[0].K, api.KVoid)
	case api.ETwo:
		e.K, errno = arith.Result(e.Op, e.L[0].K, e.L[1].K)
	case api.EAnd, api.EOr:
		e.K = api.KInt
	case api.ECall:
		errno = n.call(e)
	case api.ECond:
		e.K, errno = kind.Usual(e.L[1].K, e.L[2].K)
		castTo(&e.L[1], e.K)
		castTo(&e.L[2], e.K)
	}
	return errno
}

func (n *names) variable(name string) (int, api.Errno) {
	i := slices.IndexFunc(n.vars, func(v api.Var) bool { return v.Name == name })
	if i < 0 {
		return api.KVoid, api.ErrName
	}
	k := n.vars[i].K
	if !isKind(k) {
		return api.KVoid, api.ErrCalls
	}
	return k, api.OK
}

func (n *names) call(e *api.Expr) api.Errno {
	i := slices.IndexFunc(n.sigs, func(s api.Sig) bool { return s.Name == e.Name })
	if i < 0 {
		return api.ErrName
	}
	s := n.sigs[i]
	if len(s.Args) != len(e.L) || s.Ret != api.KVoid && !isKind(s.Ret) {
		return api.ErrCalls
	}
	for i, a := range s.Args {
		if !isKind(a.K) {
			return api.ErrCalls
		}
		castTo(&e.L[i], a.K)
	}
	e.K = s.Ret
	return api.OK
}

// castTo makes a part of another kind one of a kind.
func castTo(part *api.Expr, k int) {
	if part.K != k {
		*part = api.Expr{Is: api.ECast, K: k, L: []api.Expr{*part}, Line: part.Line}
	}
}

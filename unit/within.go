package unit

import (
	"iter"
	"slices"

	"burin/api"
	"burin/expr"
)

// spot is where a statement stands: how deep (a body's own are 1 deep), whether it is the first one of its list, whether it is within an XWhile.
type spot struct {
	deep  int
	first bool
	loop  bool
}

// within goes through a list of statements and all within these, each one ahead of its own.
func within(l []api.Stmt) iter.Seq2[*api.Stmt, spot] {
	return func(yield func(*api.Stmt, spot) bool) {
		walk(l, spot{deep: 1}, yield)
	}
}

// walk tells whether it was let go on to the end.
func walk(l []api.Stmt, at spot, yield func(*api.Stmt, spot) bool) bool {
	for i := range l {
		s := &l[i]
		at.first = i == 0
		inner := spot{deep: at.deep + 1, loop: at.loop || s.Is == api.XWhile}
		if !yield(s, at) || !walk(s.L, inner, yield) || !walk(s.M, inner, yield) {
			return false
		}
	}
	return true
}

// tooHigh tells whether a body is higher than one may be.
func tooHigh(body []api.Stmt) bool {
	for _, at := range within(body) {
		if at.deep > api.MaxHigh {
			return true
		}
	}
	return false
}

// copied are statements that share no list with those they are like, but within their expressions.
func copied(l []api.Stmt) []api.Stmt {
	l = slices.Clone(l)
	for i := range l {
		s := &l[i]
		s.E, s.L, s.M = slices.Clone(s.E), copied(s.L), copied(s.M)
	}
	return l
}

func sameFunc(a, b api.Func) bool {
	return a.Sig.Name == b.Sig.Name && a.Sig.Ret == b.Sig.Ret && slices.Equal(a.Sig.Args, b.Sig.Args) &&
		a.Has == b.Has && slices.EqualFunc(a.Body, b.Body, sameStmt)
}

func sameStmt(a, b api.Stmt) bool {
	return a.Is == b.Is && a.Name == b.Name && a.K == b.K && slices.EqualFunc(a.E, b.E, expr.Same) &&
		slices.EqualFunc(a.L, b.L, sameStmt) && slices.EqualFunc(a.M, b.M, sameStmt)
}

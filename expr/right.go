package expr

import (
	"iter"

	"burin/api"
	"burin/arith"
	"burin/kind"
	"burin/lex"
)

// mostArgs is how many arguments a call may have.
const mostArgs = 8

// within goes through an expression and all parts in it, each one ahead of its own, with how deep it lies: the whole is 1 deep.
func within(e *api.Expr) iter.Seq2[*api.Expr, int] {
	return func(yield func(*api.Expr, int) bool) {
		walk(e, 1, yield)
	}
}

// walk tells whether it was let go on to the end.
func walk(e *api.Expr, deep int, yield func(*api.Expr, int) bool) bool {
	if !yield(e, deep) {
		return false
	}
	for i := range e.L {
		if !walk(&e.L[i], deep+1, yield) {
			return false
		}
	}
	return true
}

// rightAlone tells whether an expression is right, as far as that hangs on it and on how many parts it has.
func rightAlone(e *api.Expr) bool {
	rest := *e // what is named is taken out of it, so that nothing may be left
	ok := false
	switch n := len(e.L); e.Is {
	case api.EInt:
		ok = n == 0 && lex.Right(word(e))
		rest.V, rest.K = 0, 0
	case api.EVar:
		ok = n == 0 && lex.Right(word(e))
		rest.Name = ""
	case api.EOne:
		ok = n == 1 && ofOne(e.Op)
		rest.Op = 0
	case api.ETwo:
		ok = n == 2 && arith.Binary(e.Op)
		rest.Op = 0
	case api.EAnd, api.EOr:
		ok = n == 2
	case api.ECast:
		ok = n == 1 && isKind(e.K)
		rest.K = 0
	case api.ECall:
		ok = n <= mostArgs && lex.Right(word(e))
		rest.Name = ""
	case api.ECond:
		ok = n == 3
	}
	return ok && rest.Op == 0 && rest.K == 0 && rest.V == 0 && rest.Name == ""
}

// word is the number of an EInt, and the name of others.
func word(e *api.Expr) api.Word {
	if e.Is == api.EInt {
		return api.Word{Kind: api.WInt, V: e.V, T: e.K}
	}
	return api.Word{Kind: api.WName, S: e.Name}
}

func ofOne(op int) bool { return !arith.Binary(op) && arith.Sign(op) != "" }

func isKind(k int) bool { return kind.Size(k) > 0 }

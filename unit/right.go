package unit

import (
	"burin/api"
	"burin/expr"
	"burin/kind"
	"burin/lex"
)

// right tells whether a unit is one that words say.
func right(u api.Unit) bool {
	if len(u.L) > api.MaxFuncs {
		return false
	}
	for i := range u.L {
		if !rightFunc(&u.L[i]) {
			return false
		}
	}
	return true
}

func rightFunc(f *api.Func) bool {
	if !isName(f.Sig.Name) || f.Sig.Ret != api.KVoid && !isKind(f.Sig.Ret) || !f.Has && len(f.Body) > 0 || tooHigh(f.Body) {
		return false
	}
	for _, a := range f.Sig.Args {
		if !isName(a.Name) || !isKind(a.K) {
			return false
		}
	}
	for s := range within(f.Body) {
		if !rightParts(s) || !rightAlone(s) {
			return false
		}
	}
	return true
}

// rightParts tells whether a statement's name, kind and expressions are right.
func rightParts(s *api.Stmt) bool {
	for _, e := range s.E {
		if !expr.Right(e) {
			return false
		}
	}
	switch s.Is {
	case api.XDecl:
		return isName(s.Name) && isKind(s.K)
	case api.XSet:
		return isName(s.Name) && s.K == 0
	}
	return s.Name == "" && s.K == 0
}

// rightAlone tells whether a statement has as many expressions and statements as it must have.
func rightAlone(s *api.Stmt) bool {
	e, l, m := len(s.E), len(s.L), len(s.M)
	switch s.Is {
	case api.XDecl, api.XReturn:
		return e <= 1 && l+m == 0
	case api.XSet, api.XCall:
		return e == 1 && l+m == 0
	case api.XIf:
		return e == 1 && l == 1 && (m == 0 || m == 1 && !open(&s.L[0]))
	case api.XWhile:
		return e == 1 && l == 1 && m == 0
	case api.XBreak, api.XContinue:
		return e+l+m == 0
	case api.XBlock:
		return e+m == 0
	}
	return false
}

// open tells whether a statement ends in an XIf without M, to which an `else` behind it would belong.
func open(s *api.Stmt) bool {
	last := s.L
	switch s.Is {
	case api.XIf:
		if len(s.M) == 0 {
			return true
		}
		last = s.M
	case api.XWhile:
	default:
		return false
	}
	return len(last) == 1 && open(&last[0])
}

func isName(s string) bool { return lex.Right(api.Word{Kind: api.WName, S: s}) }

func isKind(k int) bool { return kind.Size(k) > 0 }

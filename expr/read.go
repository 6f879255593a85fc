package expr

import (
	"slices"

	"burin/api"
	"burin/arith"
	"burin/kind"
)

// reading reads an expression, or ends ahead of the first word with which none can go on.
type reading func() (api.Expr, bool)

// reader reads words from a place on.
type reader struct {
	l       []api.Word
	at      int
	next    api.Word
	two     reading // all that binds more than `? :`
	crowded []int   // the lines of calls of too many arguments, as they end
}

func newReader(l []api.Word, from int) *reader {
	r := &reader{l: l}
	r.stand(from)
	part := r.level(r.one, "*", "/", "%")
	part = r.level(part, "+", "-")
	part = r.level(part, "<<", ">>")
	part = r.level(part, "<", "<=", ">", ">=")
	part = r.level(part, "==", "!=")
	part = r.level(part, "&")
	part = r.level(part, "^")
	part = r.level(part, "|")
	part = r.level(part, "&&")
	r.two = r.level(part, "||")
	return r
}

// level reads parts with these signs between them, from left to right.
func (r *reader) level(part reading, signs ...string) reading {
	return func() (api.Expr, bool) {
		e, ok := part()
		for ok && slices.Contains(signs, r.sign()) {
			w := r.take()
			var second api.Expr
			second, ok = part()
			e = joined(w, e, second)
		}
		return e, ok
	}
}

// joined is what a sign makes of the parts round it.
func joined(w api.Word, a, b api.Expr) api.Expr {
	e := api.Expr{Is: api.ETwo, L: []api.Expr{a, b}, Line: w.Line}
	switch w.S {
	case "&&":
		e.Is = api.EAnd
	case "||":
		e.Is = api.EOr
	case ">":
		return not(api.OLeq, e)
	case ">=":
		return not(api.OLess, e)
	default:
		e.Op = operator(w.S, arith.Binary)
	}
	return e
}

func not(op int, e api.Expr) api.Expr {
	e.Op = op
	return api.Expr{Is: api.EOne, Op: api.ONot, L: []api.Expr{e}, Line: e.Line}
}

// operator is the one of a sign, among those that are meant, as `-` is the sign of two; 0, if there is none.
func operator(sign string, meant func(op int) bool) int {
	for op := api.OAdd; op <= api.ONot; op++ {
		if meant(op) && arith.Sign(op) == sign {
			return op
		}
	}
	return 0
}

func (r *reader) expression() (api.Expr, bool) {
	first, ok := r.two()
	if !ok || r.sign() != "?" {
		return first, ok
	}
	w := r.take()
	second, ok := r.expression()
	if !ok || !r.skip(":") {
		return api.Expr{}, false
	}
	third, ok := r.expression()
	return api.Expr{Is: api.ECond, L: []api.Expr{first, second, third}, Line: w.Line}, ok
}

// one reads a part with the signs and casts ahead of it.
func (r *reader) one() (api.Expr, bool) {
	if r.skip("+") {
		return r.one()
	}
	if op := operator(r.sign(), ofOne); op != 0 {
		w := r.take()
		e, ok := r.one()
		return api.Expr{Is: api.EOne, Op: op, L: []api.Expr{e}, Line: w.Line}, ok
	}
	if r.sign() != "(" {
		return r.alone()
	}
	w := r.take()
	if r.atKind() {
		return r.cast(w.Line)
	}
	e, ok := r.expression()
	return e, ok && r.skip(")")
}

// cast reads one behind its first bracket.
func (r *reader) cast(line int) (api.Expr, bool) {
	var words []string
	for r.atKind() {
		words = append(words, r.take().S)
	}
	k, errno := kind.Of(words)
	if errno != api.OK || !r.skip(")") {
		return api.Expr{}, false
	}
	e, ok := r.one()
	return api.Expr{Is: api.ECast, K: k, L: []api.Expr{e}, Line: line}, ok
}

// alone reads a number, a variable or a call.
func (r *reader) alone() (api.Expr, bool) {
	switch r.next.Kind {
	case api.WInt:
		w := r.take()
		return api.Expr{Is: api.EInt, K: w.T, V: w.V, Line: w.Line}, true
	case api.WName:
		w := r.take()
		if !r.skip("(") {
			return api.Expr{Is: api.EVar, Name: w.S, Line: w.Line}, true
		}
		l, ok := r.arguments()
		if len(l) > mostArgs {
			r.crowded = append(r.crowded, w.Line)
		}
		return api.Expr{Is: api.ECall, Name: w.S, L: l, Line: w.Line}, ok
	}
	return api.Expr{}, false
}

// arguments reads what stands behind a call's first bracket, and the last one.
func (r *reader) arguments() ([]api.Expr, bool) {
	if r.skip(")") {
		return nil, true
	}
	var l []api.Expr
going:
	for {
		e, ok := r.expression()
		if !ok {
			break going
		}
		l = append(l, e)
		switch r.sign() {
		case ",":
			r.take()
		case ")":
			r.take()
			return l, true
		default:
			break going
		}
	}
	return nil, false
}

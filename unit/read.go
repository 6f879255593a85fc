package unit

import "burin/api"

func (r *reader) unit() api.Unit {
	var u api.Unit
	for r.bad.errno == api.OK && !r.ended() {
		f := r.function()
		if len(u.L) == api.MaxFuncs {
			r.fail(api.ErrUnit, f.Line)
		}
		u.L = append(u.L, f)
	}
	return u
}

func (r *reader) function() api.Func {
	var f api.Func
	bare := r.skip("extern")
	if !r.skip("void") {
		f.Sig.Ret = r.kind()
	}
	name := r.name()
	f.Sig.Name, f.Line = name.S, name.Line
	f.Sig.Args = r.parameters()
	if bare || !r.skip("{") {
		r.want(";")
		return f
	}
	f.Has, f.Body = true, r.block()
	if tooHigh(f.Body) {
		r.fail(api.ErrDeep, f.Line)
	}
	return f
}

func (r *reader) parameters() []api.Var {
	r.want("(")
	if r.skip(")") {
		return nil
	}
	var l []api.Var
	if !r.skip("void") {
		l = append(l, r.parameter())
		for r.skip(",") {
			l = append(l, r.parameter())
		}
	}
	r.want(")")
	return l
}

func (r *reader) parameter() api.Var {
	k := r.kind()
	return api.Var{Name: r.name().S, K: k}
}

// block reads one behind its first bracket.
func (r *reader) block() []api.Stmt {
	var l []api.Stmt
	for r.bad.errno == api.OK && !r.skip("}") {
		l = append(l, r.statement())
	}
	return l
}

// statement is refused behind the last word, as nothing begins there; what begins no other one is an expression.
func (r *reader) statement() api.Stmt {
	s := api.Stmt{Line: r.line()}
	switch {
	case r.ended():
		r.refuse()
	case r.skip("{"):
		s.Is, s.L = api.XBlock, r.block()
	case r.skip(";"):
		s.Is = api.XBlock
	case r.atKind():
		r.declaration(&s)
	case r.atSet():
		s.Is, s.Name = api.XSet, r.take().S
		r.want("=")
		r.last(&s)
	case r.skip("if"):
		s.Is, s.E, s.L = api.XIf, r.condition(), r.alone()
		if r.skip("else") {
			s.M = r.alone()
		}
	case r.skip("while"):
		s.Is, s.E, s.L = api.XWhile, r.condition(), r.alone()
	case r.skip("return"):
		s.Is = api.XReturn
		if !r.skip(";") {
			r.last(&s)
		}
	case r.skip("break"):
		s.Is = api.XBreak
		r.want(";")
	case r.skip("continue"):
		s.Is = api.XContinue
		r.want(";")
	default:
		s.Is = api.XCall
		r.last(&s)
	}
	return s
}

func (r *reader) declaration(s *api.Stmt) {
	s.Is, s.K = api.XDecl, r.kind()
	s.Name = r.name().S
	if r.skip("=") {
		r.last(s)
	} else {
		r.want(";")
	}
}

// last reads a statement's expression, and the `;` behind it.
func (r *reader) last(s *api.Stmt) {
	s.E = r.expression()
	r.want(";")
}

func (r *reader) condition() []api.Expr {
	r.want("(")
	e := r.expression()
	r.want(")")
	return e
}

// alone reads a statement that is a list of its own.
func (r *reader) alone() []api.Stmt { return []api.Stmt{r.statement()} }

func (r *reader) atSet() bool {
	behind := r.at + 1
	return r.next.Kind == api.WName && behind < len(r.l) && spelt(r.l[behind], "=")
}

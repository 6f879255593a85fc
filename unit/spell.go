package unit

import (
	"strings"

	"burin/api"
	"burin/expr"
	"burin/kind"
	"burin/lex"
)

// writer writes words, one behind the other.
type writer struct{ l []api.Word }

// put writes key words and signs.
func (w *writer) put(spellings ...string) {
	for _, s := range spellings {
		word := api.Word{Kind: api.WPunct, S: s}
		if lex.IsKey(s) {
			word.Kind = api.WKey
		}
		w.l = append(w.l, word)
	}
}

func (w *writer) name(s string) { w.l = append(w.l, api.Word{Kind: api.WName, S: s}) }

func (w *writer) kind(k int) { w.put(strings.Fields(kind.Name(k))...) }

func (w *writer) variable(v api.Var) {
	w.kind(v.K)
	w.name(v.Name)
}

func (w *writer) function(f *api.Func) {
	w.variable(api.Var{Name: f.Sig.Name, K: f.Sig.Ret})
	w.put("(")
	for i, a := range f.Sig.Args {
		if i > 0 {
			w.put(",")
		}
		w.variable(a)
	}
	if len(f.Sig.Args) == 0 {
		w.put("void")
	}
	w.put(")")
	if !f.Has {
		w.put(";")
		return
	}
	w.block(f.Body)
}

func (w *writer) block(l []api.Stmt) {
	w.put("{")
	w.statements(l)
	w.put("}")
}

func (w *writer) statements(l []api.Stmt) {
	for i := range l {
		w.statement(&l[i])
	}
}

func (w *writer) statement(s *api.Stmt) {
	switch s.Is {
	case api.XBlock:
		w.block(s.L)
	case api.XIf:
		w.under("if", s)
		if len(s.M) > 0 {
			w.put("else")
			w.statements(s.M)
		}
	case api.XWhile:
		w.under("while", s)
	default:
		w.simple(s)
		w.put(";")
	}
}

// under writes a condition, and the statement that hangs on it.
func (w *writer) under(key string, s *api.Stmt) {
	w.put(key, "(")
	w.expressions(s.E)
	w.put(")")
	w.statements(s.L)
}

// simple writes a statement that has none within it, without its `;`.
func (w *writer) simple(s *api.Stmt) {
	switch s.Is {
	case api.XDecl:
		w.variable(api.Var{Name: s.Name, K: s.K})
		if len(s.E) > 0 {
			w.put("=")
		}
	case api.XSet:
		w.name(s.Name)
		w.put("=")
	case api.XReturn:
		w.put("return")
	case api.XBreak:
		w.put("break")
	case api.XContinue:
		w.put("continue")
	}
	w.expressions(s.E)
}

func (w *writer) expressions(l []api.Expr) {
	for _, e := range l {
		words, _ := expr.Words(e)
		w.l = append(w.l, words...)
	}
}

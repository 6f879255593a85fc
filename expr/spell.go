package expr

import (
	"strings"

	"burin/api"
	"burin/arith"
	"burin/kind"
)

// spell writes an expression's words behind others.
func spell(l []api.Word, e *api.Expr) []api.Word {
	switch e.Is {
	case api.EInt, api.EVar:
		return append(l, word(e))
	case api.EOne:
		return spell(append(l, punct(arith.Sign(e.Op))), &e.L[0])
	case api.ECast:
		l = append(l, punct("("))
		for s := range strings.SplitSeq(kind.Name(e.K), " ") {
			l = append(l, api.Word{Kind: api.WKey, S: s})
		}
		return spell(append(l, punct(")")), &e.L[0])
	case api.ECall:
		l = append(l, word(e))
	}
	l = append(l, punct("("))
	for i := range e.L {
		if i > 0 {
			l = append(l, punct(between(e, i)))
		}
		l = spell(l, &e.L[i])
	}
	return append(l, punct(")"))
}

// between is the sign ahead of a part that is not the first one.
func between(e *api.Expr, part int) string {
	switch {
	case e.Is == api.ECall:
		return ","
	case e.Is == api.EAnd:
		return "&&"
	case e.Is == api.EOr:
		return "||"
	case e.Is == api.ETwo:
		return arith.Sign(e.Op)
	case part == 1:
		return "?"
	}
	return ":"
}

func punct(s string) api.Word { return api.Word{Kind: api.WPunct, S: s} }

package unit

import (
	"burin/api"
	"burin/expr"
	"burin/kind"
	"burin/lex"
)

// reader reads words from the first one on, up to the first fault: from there on nothing is the next word.
type reader struct {
	l    []api.Word
	at   int
	next api.Word
	bad  fault
}

func newReader(l []api.Word) *reader {
	r := &reader{l: l}
	r.stand(0)
	return r
}

// stand goes to a place. Behind the last word, and where a word is none, the next one is without a kind.
func (r *reader) stand(at int) {
	r.at, r.next = at, api.Word{}
	if at < len(r.l) && lex.Right(r.l[at]) {
		r.next = r.l[at]
	}
}

// fail keeps the first fault.
func (r *reader) fail(errno api.Errno, line int) {
	if r.bad.errno == api.OK {
		r.bad = fault{errno, line}
	}
	r.next = api.Word{}
}

// refuse says that with the next word no unit can go on.
func (r *reader) refuse() { r.fail(api.ErrUnit, r.line()) }

// line is the next word's.
func (r *reader) line() int {
	if r.ended() {
		return 0
	}
	return r.l[r.at].Line
}

func (r *reader) ended() bool { return r.at == len(r.l) }

// take goes on behind the next word.
func (r *reader) take() api.Word {
	w := r.next
	r.stand(r.at + 1)
	return w
}

// skip goes on behind a key word or a sign, if that is the next word.
func (r *reader) skip(s string) bool {
	if !spelt(r.next, s) {
		return false
	}
	r.take()
	return true
}

func (r *reader) want(s string) {
	if !r.skip(s) {
		r.refuse()
	}
}

// spelt tells whether a word is a key word or a sign.
func spelt(w api.Word, s string) bool {
	return (w.Kind == api.WKey || w.Kind == api.WPunct) && w.S == s
}

func (r *reader) name() api.Word {
	if r.next.Kind != api.WName {
		r.refuse()
		return api.Word{}
	}
	return r.take()
}

// atKind tells whether the next word may be one of a kind's: each of these says a kind alone.
func (r *reader) atKind() bool {
	_, errno := kind.Of([]string{r.next.S})
	return r.next.Kind == api.WKey && errno == api.OK
}

func (r *reader) kind() int {
	var words []string
	for r.atKind() {
		words = append(words, r.take().S)
	}
	k, errno := kind.Of(words)
	if errno != api.OK {
		r.refuse()
	}
	return k
}

// expression is a list of one.
func (r *reader) expression() []api.Expr {
	if r.bad.errno != api.OK {
		return nil
	}
	e, at, errno, line := expr.Parse(r.l, r.at)
	if errno != api.OK {
		r.fail(errno, line)
		return nil
	}
	r.stand(at)
	return []api.Expr{e}
}

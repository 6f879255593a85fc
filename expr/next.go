package expr

import (
	"burin/api"
	"burin/kind"
	"burin/lex"
)

// stand goes to a place. Behind the last word, and where a word is none, the next one is without a kind.
func (r *reader) stand(at int) {
	r.at, r.next = at, api.Word{}
	if at < len(r.l) && lex.Right(r.l[at]) {
		r.next = r.l[at]
	}
}

// take goes on behind the next word.
func (r *reader) take() api.Word {
	w := r.next
	r.stand(r.at + 1)
	return w
}

// skip goes on behind a sign, if that is the next word.
func (r *reader) skip(sign string) bool {
	if r.sign() != sign {
		return false
	}
	r.take()
	return true
}

// sign is the next word's, or empty.
func (r *reader) sign() string {
	if r.next.Kind == api.WPunct {
		return r.next.S
	}
	return ""
}

// atKind tells whether the next word may be one of a kind's: each of these says a kind alone.
func (r *reader) atKind() bool {
	_, errno := kind.Of([]string{r.next.S})
	return r.next.Kind == api.WKey && errno == api.OK
}

// line is the next word's.
func (r *reader) line() int {
	if r.at == len(r.l) {
		return 0
	}
	return r.l[r.at].Line
}

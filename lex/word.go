package lex

import (
	"iter"
	"strings"

	"burin/api"
	"burin/cond"
)

// words yields each word, and true; the last thing may be a false instead, beside a word that has nothing but the place of the token that comes to none.
func words(l []api.Tok) iter.Seq2[api.Word, bool] {
	return func(yield func(api.Word, bool) bool) {
		for rest := l; len(rest) > 0; {
			w, size, ok := first(rest)
			if !yield(w, ok) || !ok {
				return
			}
			rest = rest[size:]
		}
	}
}

// first is the word that tokens begin with, and how many of them it comes of.
func first(l []api.Tok) (api.Word, int, bool) {
	if l[0].Kind == api.TText {
		return text(l)
	}
	w, ok := single(l[0])
	return placed(w, l[0]), 1, ok
}

func placed(w api.Word, t api.Tok) api.Word {
	w.File, w.Line = t.File, t.Line
	return w
}

// single is the word that a token comes to alone.
func single(t api.Tok) (api.Word, bool) {
	switch t.Kind {
	case api.TName:
		if IsKey(t.S) {
			return api.Word{Kind: api.WKey, S: t.S}, true
		}
		return api.Word{Kind: api.WName, S: t.S}, spelt(t.S, api.TName)
	case api.TNumber:
		return number(t.S)
	case api.TChar:
		worth, errno := cond.Char(t.S)
		return api.Word{Kind: api.WInt, V: worth, T: api.KInt}, errno == api.OK
	case api.TPunct:
		return api.Word{Kind: api.WPunct, S: t.S}, isSign(t.S)
	}
	return api.Word{}, false
}

// text is the word of all texts that tokens begin with. That it is too long is told as soon as it is: no text behind makes it shorter, and the first one of all stands ahead of any that is wrong.
func text(l []api.Tok) (api.Word, int, bool) {
	var b strings.Builder
	size := 0
	for size < len(l) && l[size].Kind == api.TText {
		s, ok := unquoted(l[size].S)
		if !ok {
			return placed(api.Word{}, l[size]), 0, false
		}
		if b.Len()+len(s) > api.MaxText {
			return placed(api.Word{}, l[0]), 0, false
		}
		b.WriteString(s)
		size++
	}
	return placed(api.Word{Kind: api.WText, S: b.String()}, l[0]), size, true
}

// spelling is how a word that is right is shown.
func spelling(w api.Word) string {
	switch w.Kind {
	case api.WInt:
		return spellInt(w.V, w.T)
	case api.WText:
		return quoted(w.S)
	}
	return w.S
}

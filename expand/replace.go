package expand

import (
	"iter"
	"strings"

	"burin/api"
	"burin/token"
)

// What an item of a body comes to.
const (
	itself = iota
	quoted // the text of an argument
	bare   // an argument as it is
	whole  // an argument expanded
)

// item is a part of a body: a token, of which what it comes to has the Space; how it comes to that, of which argument; and whether a `##` stands ahead of it.
type item struct {
	tok   api.Tok
	form  int
	arg   int
	joins bool
}

// items yields the items of a use's macro. A table has right macros only, so behind a `#`, with Func, there is a parameter.
func (u *use) items() iter.Seq[item] {
	return func(yield func(item) bool) {
		body := u.macro.Body
		isPaste := func(i int) bool {
			return i >= 0 && i < len(body) && isSign(body[i], pasting)
		}
		for i := 0; i < len(body); i++ {
			it := item{tok: body[i], arg: place(u.macro, body[i].S), joins: isPaste(i - 1)}
			switch {
			case isPaste(i):
				continue
			case u.macro.Func && isSign(body[i], quoting):
				i++
				it.form, it.arg = quoted, place(u.macro, body[i].S)
			case it.arg >= 0 && (isPaste(i-1) || isPaste(i+1)):
				it.form = bare
			case it.arg >= 0:
				it.form = whole
			}
			if !yield(it) {
				return
			}
		}
	}
}

// replace tells the tokens that a use is replaced by.
func (j *job) replace(u *use) ([]working, *fault) {
	var r replacement
	for it := range u.items() {
		l, bad := j.part(u, it)
		if bad != nil {
			return nil, bad
		}
		if !r.add(cut(l, it.tok.Space), it.joins) {
			return nil, u.fault(api.ErrPaste)
		}
	}
	j.steps += 1 + r.size
	if j.steps > api.MaxSteps {
		return nil, u.fault(api.ErrSteps)
	}
	return u.settle(r), nil
}

// part tells what an item comes to.
func (j *job) part(u *use, it item) (list, *fault) {
	switch it.form {
	case quoted:
		t, ok := textOf(u.args[it.arg])
		if !ok {
			return list{}, u.fault(api.ErrPaste)
		}
		return lay(working{Tok: t}), nil
	case bare:
		return u.args[it.arg], nil
	case whole:
		told, bad := j.expand(u.args[it.arg])
		return lay(told...), bad
	}
	return lay(working{Tok: it.tok}), nil
}

// textOf is the text of an argument; false, if that is not spelt as one.
func textOf(l list) (api.Tok, bool) {
	var b strings.Builder
	b.WriteByte('"')
	for c := range l.cells() {
		if c != l.from && (c.Space || c.First) {
			b.WriteByte(' ')
		}
		if c.Kind == api.TText || c.Kind == api.TChar {
			b.WriteString(escaped(c.S))
		} else {
			b.WriteString(c.S)
		}
	}
	b.WriteByte('"')
	t, ok := token.One(b.String())
	return t, ok && t.Kind == api.TText
}

func escaped(s string) string {
	return strings.ReplaceAll(strings.ReplaceAll(s, `\`, `\\`), `"`, `\"`)
}

// settle puts a replacement's tokens in the place of a use's name.
func (u *use) settle(r replacement) []working {
	toks := make([]working, 0, r.size)
	for t := range r.toks() {
		t.hidden = either(t.hidden, u.hidden)
		t.File, t.Line, t.First = u.name.File, u.name.Line, false
		toks = append(toks, t)
	}
	if len(toks) > 0 {
		toks[0].First, toks[0].Space = u.name.First, u.name.Space
	}
	return toks
}

// piece is tokens of a replacement, where they stand: its last cell, how many they are, and the Space of the first one. None is copied till all are counted, as calls that are nested thousands of times may each hold their argument as it is.
type piece struct {
	list
	last  *cell
	size  int
	space bool
}

func cut(l list, space bool) piece {
	p := piece{list: l, space: space}
	for c := range l.cells() {
		p.last = c
		p.size++
	}
	return p
}

// at tells the token of one of a piece's cells: line ends within an argument are blanks.
func (p piece) at(c *cell) working {
	t := c.working
	t.Space = t.Space || t.First
	if c == p.from {
		t.Space = p.space
	}
	return t
}

// front is a piece without its last token, back one without its first. What a front's last token is, nobody asks.
func (p piece) front() piece {
	p.to, p.last, p.size = p.last, nil, p.size-1
	return p
}

func (p piece) back() piece {
	p.from, p.size = p.from.next, p.size-1
	if p.size > 0 {
		p.space = p.from.Space || p.from.First
	}
	return p
}

// replacement is what a use is replaced by, as far as its body was gone through: pieces, and how many tokens they have. From open on they are what a `##` behind them pastes to.
type replacement struct {
	pieces []piece
	size   int
	open   int
}

func (r *replacement) toks() iter.Seq[working] {
	return func(yield func(working) bool) {
		for _, p := range r.pieces {
			for c := range p.cells() {
				if !yield(p.at(c)) {
					return
				}
			}
		}
	}
}

// add lays a piece down; false, if it can't be pasted to what stands ahead.
func (r *replacement) add(p piece, joins bool) bool {
	if !joins {
		r.close()
	}
	if p.size == 0 {
		return true
	}
	if last := len(r.pieces) - 1; last >= r.open {
		ahead := r.pieces[last]
		one, ok := paste(ahead.at(ahead.last), p.at(p.from))
		if !ok {
			return false
		}
		r.pieces[last] = ahead.front()
		r.pieces = append(r.pieces, cut(lay(one), one.Space))
		p = p.back()
	}
	if p.size > 0 {
		r.pieces = append(r.pieces, p)
		r.size += p.size
	}
	return true
}

// close ends what a `##` pastes to. Where there are too many tokens already, the replacement is refused at its end, if nothing else is ahead of that: so till then they need not be kept.
func (r *replacement) close() {
	if r.size > api.MaxSteps {
		r.pieces = nil
	}
	r.open = len(r.pieces)
}

// paste makes two tokens one; false, if they are not spelt as one.
func paste(a, b working) (working, bool) {
	t, ok := token.One(a.S + b.S)
	a.Kind, a.S = t.Kind, t.S
	a.hidden = both(a.hidden, b.hidden)
	return a, ok
}

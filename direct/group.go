package direct

import (
	"burin/api"
	"burin/cond"
	"burin/expand"
)

const (
	asking  = "defined"
	opening = "("
	closing = ")"
)

// group is one that has not come to its #endif.
type group struct {
	line    int  // of its #if
	idle    bool // it stands within what is skipped
	taken   bool // the lines that are read now
	settled bool // lines were taken, so no others will be
	last    bool // its #else came
}

// skips tells whether lines are skipped here. Within what is skipped nothing is taken, so the innermost group tells it.
func (s *source) skips() bool {
	g := s.innermost()
	return g != nil && !g.taken
}

// innermost is the group that what comes next belongs to; nil, if there is none.
func (s *source) innermost() *group {
	if len(s.groups) == 0 {
		return nil
	}
	return &s.groups[len(s.groups)-1]
}

// open begins a group.
func (s *source) open(d directive) api.Errno {
	g := group{line: d.line, idle: s.skips()}
	if !g.idle {
		holds, errno := s.holds(d)
		if errno != api.OK {
			return errno
		}
		g.taken, g.settled = holds, holds
	}
	s.groups = append(s.groups, g)
	return api.OK
}

// turn goes on to the next part of a group, or behind it. Nothing is looked at behind the name of a directive that is skipped: it is, if its whole group is.
func (s *source) turn(d directive) api.Errno {
	g := s.innermost()
	skipped := g != nil && g.idle
	if d.name != toElif && len(d.rest) > 0 && !skipped {
		return api.ErrDirect
	}
	if g == nil || g.last && d.name != toEndif {
		return api.ErrIf
	}
	if d.name == toEndif {
		s.groups = s.groups[:len(s.groups)-1]
		return api.OK
	}
	return s.part(g, d)
}

// part begins the part of a group that an #elif or an #else leads in.
func (s *source) part(g *group, d directive) api.Errno {
	g.taken, g.last = false, d.name == toElse
	if g.idle || g.settled {
		return api.OK
	}
	holds, errno := s.holds(d)
	g.taken, g.settled = holds, holds
	return errno
}

// unclosed tells the last group that has no #endif.
func (s *source) unclosed() *fault {
	g := s.innermost()
	if g == nil {
		return nil
	}
	return place{s.name, g.line}.fault(api.ErrIf)
}

// holds tells whether the lines behind a directive are taken, as far as it says.
func (s *source) holds(d directive) (bool, api.Errno) {
	switch d.name {
	case toIf, toElif:
		return s.condition(d.rest)
	case toElse:
		return true, api.OK
	}
	name, ok := oneName(d.rest)
	if !ok {
		return false, api.ErrDirect
	}
	return s.defined(name) == (d.name == toIfdef), api.OK
}

func (s *source) condition(l []api.Tok) (bool, api.Errno) {
	l, ok := s.answered(s.placed(l))
	if !ok {
		return false, api.ErrCond
	}
	l, errno, _ := expand.Expand(s.table, l)
	if errno != api.OK {
		return false, errno
	}
	value, _, errno := cond.Eval(filled(l))
	return value != 0, errno
}

// answered are a condition's tokens with a number in the place of each question whether a name is a macro's.
func (s *source) answered(l []api.Tok) ([]api.Tok, bool) {
	var toks []api.Tok
	for len(l) > 0 {
		t, size := l[0], 1
		if t.Kind == api.TName && t.S == asking {
			name, more := asked(l[1:])
			if more == 0 {
				return nil, false
			}
			t.Kind, t.S = api.TNumber, "0"
			if s.defined(name) {
				t.S = "1"
			}
			size += more
		}
		toks, l = append(toks, t), l[size:]
	}
	return toks, true
}

// asked is the name that is asked for, and of how many tokens; of none, if there is no name.
func asked(l []api.Tok) (string, int) {
	switch {
	case len(l) >= 1 && l[0].Kind == api.TName:
		return l[0].S, 1
	case len(l) >= 3 && isSign(l[0], opening) && l[1].Kind == api.TName && isSign(l[2], closing):
		return l[1].S, 3
	}
	return "", 0
}

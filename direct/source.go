package direct

import (
	"iter"
	"slices"
	"strconv"
	"strings"

	"burin/api"
	"burin/macro"
	"burin/token"
)

// marking is the sign that a directive begins with.
const marking = "#"

// Names of directives.
const (
	toIf      = "if"
	toIfdef   = "ifdef"
	toIfndef  = "ifndef"
	toElif    = "elif"
	toElse    = "else"
	toEndif   = "endif"
	toDefine  = "define"
	toUndef   = "undef"
	toInclude = "include"
	toLine    = "line"
	toError   = "error"
	toPragma  = "pragma"
)

const onceName = "once" // of the one pragma that does something

const mostDigits = 9 // of the number that #line tells

// source is a file that is read.
type source struct {
	*job
	path   string // its own name, whatever #line tells
	toks   []api.Tok
	ahead  []api.Line // lines that lie behind the last #line
	name   string     // as #line has it
	shift  int        // what #line adds to the number of each line
	run    []api.Tok
	groups []group
}

// directive is one: its place, its name (none, if `#` stands alone), the tokens behind that.
type directive struct {
	place
	name string
	rest []api.Tok
}

// read goes through the file, and tells its runs.
func (s *source) read() *fault {
	var bad *fault
lines:
	for line := range s.lines() {
		if !isSign(line[0], marking) {
			s.gather(line)
			continue lines
		}
		if bad = s.settle(); bad != nil {
			break lines
		}
		d := s.directive(line)
		switch d.name {
		case toIf, toIfdef, toIfndef:
			bad = d.fault(s.open(d))
		case toElif, toElse, toEndif:
			bad = d.fault(s.turn(d))
		default:
			if s.skips() {
				continue lines
			}
			bad = s.obey(d)
		}
		if bad != nil {
			break lines
		}
	}
	if bad == nil {
		bad = s.settle()
	}
	if bad == nil {
		bad = s.unclosed()
	}
	return bad
}

// lines yields the file's lines: the first token of each is First, and no other one.
func (s *source) lines() iter.Seq[[]api.Tok] {
	return func(yield func([]api.Tok) bool) {
		start := 0
		for i := range s.toks {
			last := i+1 == len(s.toks) || s.toks[i+1].First
			if !last {
				continue
			}
			if !yield(s.toks[start : i+1]) {
				return
			}
			start = i + 1
		}
	}
}

func (s *source) directive(line []api.Tok) directive {
	d := directive{place: place{s.name, line[0].Line + s.shift}}
	if len(line) > 1 {
		d.name, d.rest = line[1].S, line[2:]
	}
	return d
}

// placed are tokens with the file and the lines that they stand in, as #line has them now.
func (s *source) placed(l []api.Tok) []api.Tok {
	toks := slices.Clone(l)
	for i := range toks {
		toks[i].File = s.name
		toks[i].Line += s.shift
	}
	return toks
}

// gather adds a line to the run, unless it is skipped.
func (s *source) gather(line []api.Tok) {
	if !s.skips() {
		s.run = append(s.run, s.placed(line)...)
	}
}

// settle tells the run that ends here.
func (s *source) settle() *fault {
	run := s.run
	s.run = nil
	return s.tell(run)
}

// obey does what a directive says that is no part of a group.
func (s *source) obey(d directive) *fault {
	errno := api.OK
	switch d.name {
	case "":
	case toDefine:
		errno = s.define(d.rest)
	case toUndef:
		errno = s.undef(d.rest)
	case toInclude:
		return s.include(d)
	case toLine:
		errno = s.renumber(d.rest)
	case toError:
		errno = api.ErrError
	case toPragma:
		s.heed(d.rest)
	default:
		errno = api.ErrDirect
	}
	return d.fault(errno)
}

func (s *source) define(l []api.Tok) api.Errno {
	m, errno := macro.Parse(l)
	if errno != api.OK {
		return errno
	}
	if isOwn(m.Name) {
		return api.ErrDefine
	}
	return s.table.Define(m)
}

func (s *source) undef(l []api.Tok) api.Errno {
	name, ok := oneName(l)
	if !ok {
		return api.ErrDirect
	}
	if isOwn(name) {
		return api.ErrDefine
	}
	return s.table.Undef(name)
}

func (s *source) include(d directive) *fault {
	if len(d.rest) != 1 {
		return d.fault(api.ErrDirect)
	}
	name, ok := quoted(d.rest[0])
	if !ok {
		return d.fault(api.ErrDirect)
	}
	return s.enter(name, d.place)
}

// heed does what the one known pragma says. It is about the file itself: #line may have told another name.
func (s *source) heed(l []api.Tok) {
	if name, ok := oneName(l); ok && name == onceName {
		s.once[s.path] = struct{}{}
	}
}

func (s *source) renumber(l []api.Tok) api.Errno {
	if len(l) != 1 && len(l) != 2 {
		return api.ErrDirect
	}
	number, ok := lineNumber(l[0])
	name := s.name
	if ok && len(l) == 2 {
		name, ok = quoted(l[1])
	}
	if !ok {
		return api.ErrDirect
	}
	s.name, s.shift = name, number-s.behind(l[len(l)-1])
	return api.OK
}

// behind is the number of the physical line that follows the line of a directive's last token. Splices make it more than one greater; a comment, too, that begins behind that token and goes on.
func (s *source) behind(last api.Tok) int {
	open := false
	for len(s.ahead) > 0 {
		line := s.ahead[0]
		if line.N > last.Line && !open {
			return line.N
		}
		open = goesOn(line, open)
		s.ahead = s.ahead[1:]
	}
	return last.Line + 1 // no token follows that it could matter to
}

// goesOn tells whether a comment is open at a line's end, if one is, or is not, at its beginning.
func goesOn(line api.Line, open bool) bool {
	l := []api.Line{line}
	if open {
		l = []api.Line{{S: "/*"}, line}
	}
	_, errno, _ := token.Lex(l)
	return errno == api.ErrComment
}

func isSign(t api.Tok, s string) bool {
	return t.Kind == api.TPunct && t.S == s
}

// oneName is the name that tokens are.
func oneName(l []api.Tok) (string, bool) {
	if len(l) != 1 || l[0].Kind != api.TName {
		return "", false
	}
	return l[0].S, true
}

// quoted is what stands between a text's quotes, if it is plain.
func quoted(t api.Tok) (string, bool) {
	if t.Kind != api.TText || strings.Contains(t.S, `\`) {
		return "", false
	}
	return t.S[1 : len(t.S)-1], true
}

func lineNumber(t api.Tok) (int, bool) {
	if t.Kind != api.TNumber || len(t.S) > mostDigits {
		return 0, false
	}
	n, err := strconv.Atoi(t.S)
	return n, err == nil && n >= 1
}

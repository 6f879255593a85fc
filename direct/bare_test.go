package direct_test

import (
	"fmt"
	"slices"
	"strings"

	"burin/api"
	"burin/cond"
	"burin/expand"
	"burin/macro"
	"burin/text"
	"burin/token"
)

// This is a second reading of the chapter: groups are read by functions that call each other, where lines begin is found in the bytes, an error is a panic.

type bareFault struct {
	errno api.Errno
	file  string
	line  int
}

type bareJob struct {
	files   []api.File
	macros  *macro.Table
	once    []string
	entered int
	told    []api.Tok
}

type bareLine struct {
	toks []api.Tok
	next int // the physical line behind it
}

type bareFile struct {
	j     *bareJob
	deep  int
	own   string
	rest  []bareLine
	file  string
	delta int
	run   []api.Tok
}

func bareProcess(files []api.File, name string) (told []api.Tok, errno api.Errno, file string, line int) {
	defer func() {
		switch f := recover().(type) {
		case nil:
		case bareFault:
			told, errno, file, line = nil, f.errno, f.file, f.line
		default:
			panic(f)
		}
	}()
	j := &bareJob{files: files, macros: macro.New()}
	j.enter(name, name, 0, 0)
	return j.told, api.OK, "", 0
}

func (j *bareJob) enter(name, file string, line, deep int) {
	data, there := "", false
	for _, f := range slices.Backward(j.files) {
		if f.Name == name {
			data, there = f.Data, true
		}
	}
	if !there {
		panic(bareFault{api.ErrInclude, file, line})
	}
	if slices.Contains(j.once, name) {
		return
	}
	if deep > 32 || j.entered >= 200 {
		panic(bareFault{api.ErrDepth, file, line})
	}
	j.entered++
	lines, e := text.Lines(data)
	if e != api.OK {
		panic(bareFault{e, name, 0})
	}
	toks, e, n := token.Lex(lines)
	if e != api.OK {
		panic(bareFault{e, name, n})
	}
	f := &bareFile{j: j, deep: deep, own: name, file: name, rest: bareLines(data, toks)}
	if stop := f.block(true); stop != nil {
		if len(stop) > 2 && stop[1].S != "elif" {
			f.panic(api.ErrDirect, stop[0])
		}
		f.panic(api.ErrIf, stop[0])
	}
}

// bareLines are the lines of tokens. The physical line behind each is the next one whose beginning no splice and no comment holds to the one ahead.
func bareLines(data string, toks []api.Tok) []bareLine {
	starts := bareStarts(data)
	var l []bareLine
	for _, t := range toks {
		if t.First {
			l = append(l, bareLine{})
		}
		last := &l[len(l)-1]
		last.toks = append(last.toks, t)
		last.next = 1 << 20
		for _, n := range starts {
			if n > t.Line {
				last.next = n
				break
			}
		}
	}
	return l
}

// bareStarts are the numbers of the physical lines that begin outside of comments, and behind no splice.
func bareStarts(data string) []int {
	data = strings.ReplaceAll(strings.ReplaceAll(data, "\r\n", "\n"), "\r", "\n")
	data = strings.ReplaceAll(strings.TrimSuffix(data, "\n"), "\\\n", "\x01") // none of the tests has this byte
	starts, number := []int{1}, 1
	state := byte(0) // '/', '*', or the quote that is open
	var kept []byte  // the last two bytes, without splices
	for i := 0; i < len(data); i++ {
		c := data[i]
		if c == 1 {
			number++
			continue
		}
		kept = append(kept, c)
		two := ""
		if len(kept) > 1 {
			two = string(kept[len(kept)-2:])
		}
		switch {
		case c == '\n':
			number++
			if state != '*' {
				starts = append(starts, number)
				state, kept = 0, nil
			}
		case state == 0 && two == "//":
			state = '/'
		case state == 0 && two == "/*":
			state, kept = '*', nil
		case state == '*' && two == "*/":
			state, kept = 0, nil
		case state == 0 && (c == '"' || c == '\''):
			state, kept = c, nil
		case (state == '"' || state == '\'') && two != "" && two[0] == '\\':
			kept = nil // the byte behind a `\` ends nothing
		case state == c && state != '/' && state != '*':
			state, kept = 0, nil
		}
	}
	return starts
}

func (f *bareFile) panic(e api.Errno, at api.Tok) {
	panic(bareFault{e, f.file, at.Line + f.delta})
}

func (f *bareFile) place(l []api.Tok) []api.Tok {
	l = slices.Clone(l)
	for i := range l {
		l[i].File, l[i].Line = f.file, l[i].Line+f.delta
	}
	return l
}

// flush tells the run that is ended.
func (f *bareFile) flush() {
	if len(f.run) == 0 {
		return
	}
	l, e, n := expand.Expand(f.j.macros, f.run)
	if n == 0 {
		n = f.run[0].Line
	}
	if e == api.OK && len(f.j.told)+len(l) > 20000 {
		e = api.ErrMany
		n = f.run[0].Line
	}
	if e != api.OK {
		panic(bareFault{e, f.file, n})
	}
	f.j.told = append(f.j.told, bareOwn(l)...)
	f.run = nil
}

func bareOwn(l []api.Tok) []api.Tok {
	l = slices.Clone(l)
	for i, t := range l {
		if t.Kind == api.TName && t.S == "__LINE__" {
			l[i].Kind, l[i].S = api.TNumber, fmt.Sprint(t.Line)
		}
		if t.Kind == api.TName && t.S == "__FILE__" {
			l[i].Kind, l[i].S = api.TText, `"`+strings.NewReplacer(`"`, `\"`, `\`, `\\`).Replace(t.File)+`"`
		}
	}
	return l
}

// block reads lines up to the file's end (nil), or up to one that ends a part of a group.
func (f *bareFile) block(taken bool) []api.Tok {
	for len(f.rest) > 0 {
		line := f.rest[0]
		l := line.toks
		f.rest = f.rest[1:]
		if l[0].S != "#" {
			if taken {
				f.run = append(f.run, f.place(l)...)
			}
			continue
		}
		f.flush()
		name := ""
		if len(l) > 1 {
			name = l[1].S
		}
		switch name {
		case "elif", "else", "endif":
			return l
		case "if", "ifdef", "ifndef":
			f.group(l, taken)
		default:
			if taken {
				f.simple(name, line)
			}
		}
	}
	f.flush()
	return nil
}

// group reads a whole one.
func (f *bareFile) group(head []api.Tok, within bool) {
	number := head[0].Line + f.delta
	free, seen := within, false
	for {
		holds := free && f.holds(head)
		if holds {
			free = false
		}
		stop := f.block(holds)
		if stop == nil {
			panic(bareFault{api.ErrIf, f.file, number})
		}
		if within && len(stop) > 2 && stop[1].S != "elif" {
			f.panic(api.ErrDirect, stop[0])
		}
		if stop[1].S == "endif" {
			return
		}
		if seen {
			f.panic(api.ErrIf, stop[0])
		}
		seen = stop[1].S == "else"
		head = stop
	}
}

func (f *bareFile) holds(l []api.Tok) bool {
	switch l[1].S {
	case "else":
		return true
	case "ifdef", "ifndef":
		if len(l) != 3 || l[2].Kind != api.TName {
			f.panic(api.ErrDirect, l[0])
		}
		_, is := f.j.macros.Get(l[2].S)
		return is != (l[1].S == "ifndef")
	}
	c := f.place(l[2:])
	for i := 0; i < len(c); i++ {
		if c[i].S != "defined" {
			continue
		}
		n := 2
		if i+3 < len(c) && c[i+1].S == "(" && c[i+3].S == ")" {
			n = 4
		}
		if i+n > len(c) || c[i+n/2].Kind != api.TName {
			f.panic(api.ErrCond, l[0])
		}
		_, is := f.j.macros.Get(c[i+n/2].S)
		c[i].Kind, c[i].S = api.TNumber, map[bool]string{false: "0", true: "1"}[is]
		c = slices.Delete(c, i+1, i+n)
	}
	c, e, _ := expand.Expand(f.j.macros, c)
	if e != api.OK {
		f.panic(e, l[0])
	}
	v, _, e := cond.Eval(bareOwn(c))
	if e != api.OK {
		f.panic(e, l[0])
	}
	return v != 0
}

// simple does what any other directive says.
func (f *bareFile) simple(name string, line bareLine) {
	l := line.toks
	e := api.OK
	rest := l[min(2, len(l)):]
	one := len(rest) == 1
	switch {
	case len(l) == 1 || name == "pragma" && !(one && rest[0].S == "once"):
	case name == "pragma":
		f.j.once = append(f.j.once, f.own)
	case name == "define":
		var m api.Macro
		if m, e = macro.Parse(rest); e == api.OK {
			e = f.j.macros.Define(m)
		}
		if m.Name == "__LINE__" || m.Name == "__FILE__" {
			e = api.ErrDefine
		}
	case name == "undef" && one && (rest[0].S == "__LINE__" || rest[0].S == "__FILE__"):
		e = api.ErrDefine
	case name == "undef" && one && rest[0].Kind == api.TName:
		f.j.macros.Undef(rest[0].S)
	case name == "error":
		e = api.ErrError
	case name == "include" && one && barePlain(rest[0]):
		f.j.enter(strings.Trim(rest[0].S, `"`), f.file, l[0].Line+f.delta, f.deep+1)
	case name == "line" && (one || len(rest) == 2 && barePlain(rest[1])) && bareNumber(rest[0]) > 0:
		f.delta = bareNumber(rest[0]) - line.next
		if !one {
			f.file = strings.Trim(rest[1].S, `"`)
		}
	default:
		e = api.ErrDirect
	}
	if e != api.OK {
		f.panic(e, l[0])
	}
}

func barePlain(t api.Tok) bool {
	return strings.HasPrefix(t.S, `"`) && !strings.Contains(t.S, `\`)
}

// bareNumber is a line's number; 0, if it is none.
func bareNumber(t api.Tok) int {
	n := 0
	if len(t.S) > 9 {
		return 0
	}
	for _, c := range t.S {
		if c < '0' || c > '9' {
			return 0
		}
		n = n*10 + int(c-'0')
	}
	return n
}

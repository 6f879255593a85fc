package token_test

import (
	"fmt"
	"math"
	"regexp"
	"slices"
	"strings"
	"testing"

	"burin/api"
	"burin/text"
	"burin/token"
)

// allSigns is the chapter's own list.
const allSigns = "[ ] ( ) { } . -> ++ -- & * + - ~ ! / % << >> < > <= >= == != ^ | && || ? : ; ... = *= /= %= += -= <<= >>= &= ^= |= , # ##"

// show keeps a failure of many tokens readable.
func show(l []api.Tok) string { return fmt.Sprintf("%.400s", fmt.Sprintf("%+v", l)) }

// rows are lines, numbered from 1 on.
func rows(s ...string) []api.Line {
	var l []api.Line
	for i, x := range s {
		l = append(l, api.Line{N: i + 1, S: x})
	}
	return l
}

func lex(t *testing.T, s ...string) []api.Tok {
	t.Helper()
	l, e, n := token.Lex(rows(s...))
	if e != api.OK || n != 0 {
		t.Errorf("Lex(%.300q): %d, %d", s, e, n)
	}
	return l
}

func wantToks(t *testing.T, lines []string, want []api.Tok) {
	t.Helper()
	if got := lex(t, lines...); !slices.Equal(got, want) {
		t.Errorf("Lex(%.300q) = %s; want %s", lines, show(got), show(want))
	}
}

func wantError(t *testing.T, lines []api.Line, want api.Errno, number int) {
	t.Helper()
	if l, e, n := token.Lex(lines); len(l) != 0 || e != want || n != number {
		t.Errorf("Lex(%.300s) = %d tokens, %d, %d; want %d, %d", fmt.Sprintf("%#v", lines), len(l), e, n, want, number)
	}
}

// every hands on all texts of at most so many bytes of an alphabet.
func every(alphabet string, most int, check func(string)) {
	level := []string{""}
	for n := 0; ; n++ {
		for _, s := range level {
			check(s)
		}
		if n == most {
			return
		}
		var next []string
		for _, s := range level {
			for i := range len(alphabet) {
				next = append(next, s+alphabet[i:i+1])
			}
		}
		level = next
	}
}

// bareLexer finds tokens otherwise than the program does it: in one text, whose line ends are 0A.
type bareLexer struct{ pattern *regexp.Regexp }

func newBareLexer() bareLexer {
	list := strings.Fields(allSigns)
	slices.SortStableFunc(list, func(a, b string) int { return len(b) - len(a) })
	for i, s := range list {
		list[i] = regexp.QuoteMeta(s)
	}
	return bareLexer{regexp.MustCompile(`^(?:` + strings.Join([]string{
		`([A-Za-z_][A-Za-z_0-9]*)`,
		`(\.?[0-9](?:[eEpP][+-]|[0-9A-Za-z_.])*)`,
		`('(?:\\[^\n]|[^'\\\n])+')`,
		`("(?:\\[^\n]|[^"\\\n])*")`,
		`(` + strings.Join(list, "|") + `)`,
		`([^\n])`,
	}, "|") + `)`)}
}

var blankAhead = regexp.MustCompile(`^(?:[ \t\v\f]|//[^\n]*|(?s:/\*.*?\*/))`)

func (b bareLexer) lex(s string) ([]api.Tok, api.Errno, int) {
	var l []api.Tok
	number, space, first := 1, false, true
	for s != "" {
		if blank := blankAhead.FindString(s); blank != "" {
			number += strings.Count(blank, "\n")
			s, space = s[len(blank):], true
			continue
		}
		if s[0] == '\n' {
			number, s, space, first = number+1, s[1:], false, true
			continue
		}
		if strings.HasPrefix(s, "/*") {
			return nil, api.ErrComment, number
		}
		m := b.pattern.FindStringSubmatch(s)
		kind := api.TName + slices.IndexFunc(m[1:], func(x string) bool { return x != "" })
		if kind == api.TOther && (s[0] == '\'' || s[0] == '"') {
			return nil, api.ErrQuote, number
		}
		l = append(l, api.Tok{Kind: kind, S: m[0], Line: number, Space: space, First: first})
		s, space, first = s[len(m[0]):], false, false
	}
	return l, api.OK, 0
}

// P2.1: kinds and bytes of tokens, each as long as it can be.
func TestKinds(t *testing.T) {
	const name, number, char, str, sign, other = api.TName, api.TNumber, api.TChar, api.TText, api.TPunct, api.TOther
	type piece struct {
		kind int
		s    string
	}
	for s, want := range map[string][]piece{
		"":                     nil,
		"a+++b":                {{name, "a"}, {sign, "++"}, {sign, "+"}, {name, "b"}},
		"a---->b":              {{name, "a"}, {sign, "--"}, {sign, "--"}, {sign, ">"}, {name, "b"}},
		"x /* y */ 1.5e+3":     {{name, "x"}, {number, "1.5e+3"}},
		`'a' "\"" ->*`:         {{char, "'a'"}, {str, `"\""`}, {sign, "->"}, {sign, "*"}},
		"_aZ09$z":              {{name, "_aZ09"}, {other, "$"}, {name, "z"}},
		"L'a'u8\"b\"":          {{name, "L"}, {char, "'a'"}, {name, "u8"}, {str, `"b"`}},
		"e+1":                  {{name, "e"}, {sign, "+"}, {number, "1"}},
		"09":                   {{number, "09"}},
		"1a_Z.b..c":            {{number, "1a_Z.b..c"}},
		"0xe+1":                {{number, "0xe+1"}},
		"1e+1E-2p+3P-4":        {{number, "1e+1E-2p+3P-4"}},
		"1e++2":                {{number, "1e+"}, {sign, "+"}, {number, "2"}},
		"1e+-2":                {{number, "1e+"}, {sign, "-"}, {number, "2"}},
		"1f+2":                 {{number, "1f"}, {sign, "+"}, {number, "2"}},
		"1+e":                  {{number, "1"}, {sign, "+"}, {name, "e"}},
		"1ee+":                 {{number, "1ee+"}},
		".1.2":                 {{number, ".1.2"}},
		"..1":                  {{sign, "."}, {number, ".1"}},
		"...1":                 {{sign, "..."}, {number, "1"}},
		"....":                 {{sign, "..."}, {sign, "."}},
		"..":                   {{sign, "."}, {sign, "."}},
		".e1":                  {{sign, "."}, {name, "e1"}},
		"a.1":                  {{name, "a"}, {number, ".1"}},
		"<<=>>=<=>=":           {{sign, "<<="}, {sign, ">>="}, {sign, "<="}, {sign, ">="}},
		"<<<=":                 {{sign, "<<"}, {sign, "<="}},
		"###":                  {{sign, "##"}, {sign, "#"}},
		"&&&=|||=":             {{sign, "&&"}, {sign, "&="}, {sign, "||"}, {sign, "|="}},
		"~=!=====":             {{sign, "~"}, {sign, "="}, {sign, "!="}, {sign, "=="}, {sign, "=="}},
		"%:<:::>":              {{sign, "%"}, {sign, ":"}, {sign, "<"}, {sign, ":"}, {sign, ":"}, {sign, ":"}, {sign, ">"}},
		"/=/ /":                {{sign, "/="}, {sign, "/"}, {sign, "/"}},
		"*/":                   {{sign, "*"}, {sign, "/"}},
		"@`$\\":                {{other, "@"}, {other, "`"}, {other, "$"}, {other, `\`}},
		"\x00\x7f\xc3\xa4":     {{other, "\x00"}, {other, "\x7f"}, {other, "\xc3"}, {other, "\xa4"}},
		"a\xc3\xa4":            {{name, "a"}, {other, "\xc3"}, {other, "\xa4"}},
		"\n\r":                 {{other, "\n"}, {other, "\r"}},
		"'ab\"c'":              {{char, "'ab\"c'"}},
		`'\''`:                 {{char, `'\''`}},
		`'\\'`:                 {{char, `'\\'`}},
		`'\\''a'`:              {{char, `'\\'`}, {char, "'a'"}},
		`'/*' "//"`:            {{char, "'/*'"}, {str, `"//"`}},
		`""`:                   {{str, `""`}},
		`"""'"`:                {{str, `""`}, {str, `"'"`}},
		`"\\"a"\"\\"`:          {{str, `"\\"`}, {name, "a"}, {str, `"\"\\"`}},
		"\"\x00\xff\t\\\xff\"": {{str, "\"\x00\xff\t\\\xff\""}},
		"\\\"a\"":              {{other, `\`}, {str, `"a"`}},
	} {
		var got []piece
		for _, x := range lex(t, s) {
			got = append(got, piece{x.Kind, x.S})
		}
		if !slices.Equal(got, want) {
			t.Errorf("Lex(%q) = %q; want %q", s, fmt.Sprint(got), fmt.Sprint(want))
		}
	}
}

// P2.1: what is a blank is no token, and parts tokens.
func TestBlanks(t *testing.T) {
	for _, blank := range []string{" ", "\t", "\v", "\f", "  ", " \t\v\f", "/**/", "/*/*/", "/***/", "/* // */", "/*'*/", "/*\"*/", "/**//**/", " /* x */ "} {
		wantToks(t, []string{"a" + blank + "b"}, []api.Tok{
			{Kind: api.TName, S: "a", Line: 1, First: true},
			{Kind: api.TName, S: "b", Line: 1, Space: true},
		})
		wantToks(t, []string{blank}, nil)
		wantToks(t, []string{blank + "a" + blank}, []api.Tok{{Kind: api.TName, S: "a", Line: 1, Space: true, First: true}})
	}
	for _, comment := range []string{"//", "///", "// b", "//*", "// /*", "//'", `//"`, "// b // c", `//\`} {
		wantToks(t, []string{"a" + comment, "b"}, []api.Tok{
			{Kind: api.TName, S: "a", Line: 1, First: true},
			{Kind: api.TName, S: "b", Line: 2, First: true},
		})
		wantToks(t, []string{comment}, nil)
	}
	for _, c := range []string{"\x00", "\x08", "\x0a", "\x0d", "\x0e", "\x1f", "\x21", "\x85", "\xa0"} {
		if l := lex(t, "a"+c+"b"); len(l) != 3 || l[1].S != c || l[2].Space {
			t.Errorf("%q: %s", c, show(l))
		}
	}
}

// P2.1: Line, Space and First behind blanks, comments and line ends.
func TestPlaces(t *testing.T) {
	tok := func(s string, line int, marks string) api.Tok {
		return api.Tok{Kind: api.TName, S: s, Line: line, Space: strings.Contains(marks, "s"), First: strings.Contains(marks, "f")}
	}
	for _, c := range []struct {
		lines []string
		want  []api.Tok
	}{
		{[]string{"a b", "c", " d"}, []api.Tok{tok("a", 1, "f"), tok("b", 1, "s"), tok("c", 2, "f"), tok("d", 3, "fs")}},
		{[]string{"", " ", "a ", "", "b"}, []api.Tok{tok("a", 3, "f"), tok("b", 5, "f")}},
		{[]string{"a /* x", "y */ b", "c"}, []api.Tok{tok("a", 1, "f"), tok("b", 2, "s"), tok("c", 3, "f")}},
		{[]string{"a/*", "*/b"}, []api.Tok{tok("a", 1, "f"), tok("b", 2, "s")}},
		{[]string{"a/*", "", "", "*/b"}, []api.Tok{tok("a", 1, "f"), tok("b", 4, "s")}},
		{[]string{"a /* x", "*/", "b"}, []api.Tok{tok("a", 1, "f"), tok("b", 3, "f")}},
		{[]string{"a /* x */", "b"}, []api.Tok{tok("a", 1, "f"), tok("b", 2, "f")}},
		{[]string{"a /* x */ ", "/* y", "*/ b"}, []api.Tok{tok("a", 1, "f"), tok("b", 3, "fs")}},
		{[]string{"a", "/*", "*/b"}, []api.Tok{tok("a", 1, "f"), tok("b", 3, "fs")}},
		{[]string{"a /*", "*/ /*", "*/ b c"}, []api.Tok{tok("a", 1, "f"), tok("b", 3, "s"), tok("c", 3, "s")}},
		{[]string{"/* x", "*/ a"}, []api.Tok{tok("a", 2, "fs")}},
		{[]string{"/**/a"}, []api.Tok{tok("a", 1, "fs")}},
		{[]string{"a // x", "b"}, []api.Tok{tok("a", 1, "f"), tok("b", 2, "f")}},
		{[]string{"a /* // */ b", "c"}, []api.Tok{tok("a", 1, "f"), tok("b", 1, "s"), tok("c", 2, "f")}},
		{[]string{"a // /*", "b // */", "c"}, []api.Tok{tok("a", 1, "f"), tok("b", 2, "f"), tok("c", 3, "f")}},
		{[]string{"a /* *", "/ */ b"}, []api.Tok{tok("a", 1, "f"), tok("b", 2, "s")}},
		{[]string{"a /*", "// */ b"}, []api.Tok{tok("a", 1, "f"), tok("b", 2, "s")}},
		{[]string{"a", "b /*", "' \" */"}, []api.Tok{tok("a", 1, "f"), tok("b", 2, "f")}},
	} {
		wantToks(t, c.lines, c.want)
	}
}

// P2.1: a line's number is the one that it says.
func TestNumbersOfLines(t *testing.T) {
	numbers := []int{math.MinInt, -1, 0, 1, 7, 7, 3, math.MaxInt}
	var l []api.Line
	for _, n := range numbers {
		l = append(l, api.Line{N: n, S: "a /* "}, api.Line{N: n, S: " */ b"})
		wantError(t, []api.Line{{N: n, S: "a '"}}, api.ErrQuote, n)
		wantError(t, []api.Line{{N: n, S: "a /*"}, {N: 5, S: "b"}}, api.ErrComment, n)
	}
	got, e, n := token.Lex(l)
	if e != api.OK || n != 0 || len(got) != len(l) {
		t.Fatal(show(got), e, n)
	}
	for i, x := range got {
		if x.Line != l[i].N || x.First != (i%2 == 0) || x.File != "" {
			t.Errorf("token %d: %+v", i, x)
		}
	}
}

// P2.1: wrong lines, and the number of the first place where that is met.
func TestErrors(t *testing.T) {
	for _, c := range []struct {
		lines  []string
		want   api.Errno
		number int
	}{
		{[]string{`"a`}, api.ErrQuote, 1},
		{[]string{"'a"}, api.ErrQuote, 1},
		{[]string{"'"}, api.ErrQuote, 1},
		{[]string{`"`}, api.ErrQuote, 1},
		{[]string{"''"}, api.ErrQuote, 1},
		{[]string{"'''"}, api.ErrQuote, 1},
		{[]string{"''a'"}, api.ErrQuote, 1},
		{[]string{"a ''"}, api.ErrQuote, 1},
		{[]string{`'\'`}, api.ErrQuote, 1},
		{[]string{`"\"`}, api.ErrQuote, 1},
		{[]string{`"\\\"`}, api.ErrQuote, 1},
		{[]string{`'\`}, api.ErrQuote, 1},
		{[]string{`"a\`, `b"`}, api.ErrQuote, 1},
		{[]string{"'a", "'"}, api.ErrQuote, 1},
		{[]string{"a", `"b" "c`, "d"}, api.ErrQuote, 2},
		{[]string{"'a\""}, api.ErrQuote, 1},
		{[]string{`"a'`}, api.ErrQuote, 1},
		{[]string{"a", `"b // " /*`}, api.ErrComment, 2},
		{[]string{"a", `"b // "c" /*`}, api.ErrQuote, 2},
		{[]string{"/* a"}, api.ErrComment, 1},
		{[]string{"/*"}, api.ErrComment, 1},
		{[]string{"/*/"}, api.ErrComment, 1},
		{[]string{"/* *", "/"}, api.ErrComment, 1},
		{[]string{"a", "b /* c", "d", "e"}, api.ErrComment, 2},
		{[]string{"/* a", "*/ b /*", "c"}, api.ErrComment, 2},
		{[]string{"a /* b */ /* c", "//*"}, api.ErrComment, 1},
		{[]string{"a /* '", `"`, "*/ /*"}, api.ErrComment, 3},
		{[]string{"'", "/*"}, api.ErrQuote, 1},
		{[]string{"/*", "'"}, api.ErrComment, 1},
		{[]string{"a", "/* '*/ '", "/*"}, api.ErrQuote, 2},
	} {
		wantError(t, rows(c.lines...), c.want, c.number)
	}
}

// P2.1: 20000 tokens are told; the one behind them is refused, where it stands.
func TestMany(t *testing.T) {
	full := strings.Repeat("a ", api.MaxToks)
	for _, more := range []string{"", " ", "// b", "/* b */"} {
		if l := lex(t, full+more, "", "// c"); len(l) != 20000 {
			t.Errorf("behind %q: %d tokens", more, len(l))
		}
		wantError(t, rows(full+more, "*/"), api.ErrMany, 2)
		wantError(t, rows(full+more, "/*"), api.ErrComment, 2)
		wantError(t, rows("", full+more, "'"), api.ErrQuote, 3)
		wantError(t, rows(full+more, "b ' /*"), api.ErrMany, 2)
	}
	if l := lex(t, full+"/*", "*/"); len(l) != 20000 {
		t.Errorf("behind a comment over lines: %d tokens", len(l))
	}
	wantError(t, rows(full+"b"), api.ErrMany, 1)
	wantError(t, rows(full, "/*", "", "*/ b", "c"), api.ErrMany, 4)
	wantError(t, rows(full, "''"), api.ErrQuote, 2)
	wantError(t, rows("'", full+"b"), api.ErrQuote, 1)
	wantError(t, rows(full+full, "/*"), api.ErrMany, 1)
	one := make([]string, api.MaxToks)
	for i := range one {
		one[i] = "+"
	}
	if l := lex(t, one...); len(l) != 20000 || l[19999].Line != 20000 {
		t.Errorf("%d tokens", len(l))
	}
	wantError(t, rows(append(one, "", "+")...), api.ErrMany, 20002)
}

// P2.1, P2.3, P2.4: all short texts of what matters.
func TestEveryShortText(t *testing.T) {
	b := newBareLexer()
	check := func(s string) {
		want, wantErr, number := b.lex(s)
		got, e, n := token.Lex(rows(strings.Split(s, "\n")...))
		if e != wantErr || n != number || !slices.Equal(got, want) {
			t.Errorf("Lex(%q) = %s, %d, %d; want %s, %d, %d", s, show(got), e, n, show(want), wantErr, number)
		}
		wantComeBack(t, got)
	}
	every("a1.e+'\"\\/* \n<=#\x80", 4, check)
	every("/* a\n", 7, check)
	every("'\"\\a/", 7, check)
	every(".1e+-", 6, check)
	every("<>=-&", 6, check)
}

// P2.2: each sign of the list, and nothing else.
func TestPunct(t *testing.T) {
	list := strings.Fields(allSigns)
	if len(list) != 48 {
		t.Fatalf("%d signs", len(list))
	}
	check := func(s string) {
		if got := token.Punct(s); got != slices.Contains(list, s) {
			t.Errorf("Punct(%q) = %v", s, got)
		}
	}
	for _, s := range list {
		check(s)
		check(s + " ")
		check(" " + s)
		check(s + "\x00")
		if x, ok := token.One(s); !ok || x != (api.Tok{Kind: api.TPunct, S: s, Line: 1, First: true}) {
			t.Errorf("One(%q) = %+v, %v", s, x, ok)
		}
	}
	for c := range 256 {
		check(string([]byte{byte(c)}))
	}
	every("[](){}.->+&*~!/%<=^|?:;,# a1'\"\\@", 3, check)
	for _, s := range []string{"....", "<<<=", ">>>=", "&&=", "||=", "->*", "<=>", "%:%:", strings.Repeat("=", 9)} {
		check(s)
	}
}

// P2.2: a text that is one token, and one that is not.
func TestOne(t *testing.T) {
	for s, kind := range map[string]int{
		"a": api.TName, "_": api.TName, "__VA_ARGS__": api.TName,
		"1": api.TNumber, ".5": api.TNumber, "1e+": api.TNumber,
		"'a'": api.TChar, "' '": api.TChar, "'/*'": api.TChar, `'\''`: api.TChar,
		`""`: api.TText, `" "`: api.TText, `"// \" "`: api.TText,
		"<<=": api.TPunct, "/": api.TPunct,
		"@": api.TOther, `\`: api.TOther, "\x00": api.TOther, "\xff": api.TOther, "\n": api.TOther,
		strings.Repeat("a", 100000): api.TName,
	} {
		if x, ok := token.One(s); !ok || x != (api.Tok{Kind: kind, S: s, Line: 1, First: true}) {
			t.Errorf("One(%.40q) = %.80s, %v", s, fmt.Sprintf("%+v", x), ok)
		}
	}
	for _, s := range []string{
		"", " ", "//", "/**/", "a b", " a", "a ", "\ta", "a\f", "a//", "a/**/", "/**/a", "a+", "..", "->*", "=>", "'a'b", "a'b'",
		"'", "''", `"`, `"a`, "/*", "/*a", "a/*", "a'", "\xc3\xa4", "\r\n", "a\n", `"a" "b"`, strings.Repeat("+ ", 20001),
	} {
		if x, ok := token.One(s); ok || x != (api.Tok{}) {
			t.Errorf("One(%.40q) = %.80s, %v", s, fmt.Sprintf("%+v", x), ok)
		}
	}
}

// P2.2: One is what Lex says of the line.
func TestEveryShortOne(t *testing.T) {
	every("a1.e+'\"\\/* \n<=#\x80", 4, func(s string) {
		l, _, _ := token.Lex(rows(s))
		bare := len(l) == 1 && l[0].S == s
		x, ok := token.One(s)
		if ok != bare || ok && x != l[0] || !ok && x != (api.Tok{}) {
			t.Errorf("One(%q) = %+v, %v", s, x, ok)
		}
	})
}

// P2.3: what stands ahead of each token.
func TestSpell(t *testing.T) {
	for _, c := range []struct {
		toks []api.Tok
		want string
	}{
		{nil, ""},
		{[]api.Tok{}, ""},
		{[]api.Tok{{S: "a", Space: true, First: true}}, "a"},
		{[]api.Tok{{S: "a"}, {S: "b"}}, "ab"},
		{[]api.Tok{{S: "a"}, {S: "b", Space: true}}, "a b"},
		{[]api.Tok{{S: "a"}, {S: "b", First: true}}, "a\nb"},
		{[]api.Tok{{S: "a"}, {S: "b", Space: true, First: true}}, "a\nb"},
		{[]api.Tok{{S: "a", First: true, Line: 1}, {S: "b", Line: 9}, {S: "c", Line: 3, First: true}}, "ab\nc"},
		{[]api.Tok{{}, {Space: true}, {First: true}, {}}, " \n"},
		{[]api.Tok{{Kind: -1, S: "\x00\n", File: "f"}, {Kind: 99, S: "'", Space: true}}, "\x00\n '"},
		{[]api.Tok{{S: ""}, {S: "a", Space: true}}, " a"},
	} {
		if s := token.Spell(c.toks); s != c.want {
			t.Errorf("Spell(%s) = %q; want %q", show(c.toks), s, c.want)
		}
	}
	many := lex(t, strings.Repeat("a ", api.MaxToks))
	if s := token.Spell(append(many, many...)); s != strings.Repeat("a ", api.MaxToks-1)+"a\n"+strings.Repeat("a ", api.MaxToks-1)+"a" {
		t.Errorf("%d bytes", len(s))
	}
}

// alike leaves out what spelling does not keep.
func alike(l []api.Tok) []api.Tok {
	l = slices.Clone(l)
	for i := range l {
		l[i].Line = 0
		l[i].Space = l[i].Space && !l[i].First
	}
	return l
}

// wantComeBack spells tokens and lexes that; a file's own lines would do, too, if none of those ended in a splice.
func wantComeBack(t *testing.T, l []api.Tok) {
	t.Helper()
	s := token.Spell(l)
	again, e, n := token.Lex(rows(strings.Split(s, "\n")...))
	if e != api.OK || n != 0 || !slices.Equal(alike(again), alike(l)) {
		t.Errorf("%s, spelt %.200q, came back as %s, %d, %d", show(l), s, show(again), e, n)
	}
	if strings.Contains(s, "\\\n") {
		return
	}
	lines, _ := text.Lines(s)
	if again, e, _ := token.Lex(lines); e != api.OK || !slices.Equal(alike(again), alike(l)) {
		t.Errorf("%s, a file %.200q, came back as %s, %d", show(l), s, show(again), e)
	}
}

var sample = []string{
	"#define F(a, b) a ## b # a /* over",
	"lines */ rest // of it",
	"",
	`  char c = '\''; x = "a\"b" + .5e-3;`,
	"/* ahead */ y<<=1; /* behind */ @",
	"z /**/ ->* w/**/v",
}

// P2.4: tokens that are spelt come back.
func TestComeBack(t *testing.T) {
	wantComeBack(t, lex(t, sample...))
	l := lex(t, sample...)
	want := "#define F(a, b) a ## b # a rest\nchar c = '\\''; x = \"a\\\"b\" + .5e-3;\ny<<=1; @\nz ->* w v"
	if s := token.Spell(l); s != want {
		t.Errorf("%q", s)
	}
}

// P2.4: blanks more, where there are some, make no difference.
func TestMoreBlanks(t *testing.T) {
	texts := []string{"a b", " a", "a\tb+ c", "a /* x */ b", "'a b' \"c d\" e", "a/* x\n */b\n c", "1 .5 e +", "a // b\n\fc"}
	for _, s := range texts {
		want := lex(t, strings.Split(s, "\n")...)
		for at := range len(s) {
			if !strings.ContainsRune(" \t\v\f", rune(s[at])) || at > 0 && inQuotes(s[:at]) {
				continue
			}
			for _, more := range []string{" ", "\t", "\v", "\f", " \t ", "/**/"} {
				if more == "/**/" && strings.Contains(s, "/") {
					continue // it might stand within a comment, and end it
				}
				for _, i := range []int{at, at + 1} {
					wantToks(t, strings.Split(s[:i]+more+s[i:], "\n"), want)
				}
			}
		}
	}
}

func inQuotes(s string) bool { return strings.Count(s, "'")%2 == 1 || strings.Count(s, `"`)%2 == 1 }

// R1, R2: whatever the bytes are, there is an answer; and no tokens beside an error.
func TestAnyBytes(t *testing.T) {
	for a := range 256 {
		for b := range 256 {
			for _, s := range []string{string([]byte{byte(a), byte(b)}), "'" + string([]byte{byte(a), byte(b)}), "1" + string([]byte{byte(a), byte(b)})} {
				l, e, n := token.Lex([]api.Line{{N: 3, S: s}})
				if e != api.OK && (l != nil || n != 3) || e == api.OK && n != 0 {
					t.Errorf("%q: %s, %d, %d", s, show(l), e, n)
				}
				token.One(s)
				token.Spell(l)
			}
		}
	}
}

// R3: what is handed in stays as it is, spare room too; an answer is its caller's own; no lines are no tokens.
func TestMemory(t *testing.T) {
	for _, none := range [][]api.Line{nil, {}} {
		if l, e, n := token.Lex(none); len(l) != 0 || e != api.OK || n != 0 {
			t.Error(show(l), e, n)
		}
	}
	room := rows("a b", "c /*", "*/ d")
	for range 2 {
		l, _, _ := token.Lex(room[:1])
		l[0].S = "x"
		_ = append(l[:1], api.Tok{S: "y"})
		if want := rows("a b", "c /*", "*/ d"); !slices.Equal(room, want) {
			t.Error(room)
		}
	}
	toks := lex(t, "a b", "c")
	token.Spell(toks[:2])
	if want := lex(t, "a b", "c"); !slices.Equal(toks, want) {
		t.Error(show(toks))
	}
	if s := token.Spell(lex(t, "a b")); s != "a b" {
		t.Errorf("%q", s)
	}
}

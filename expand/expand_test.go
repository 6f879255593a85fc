package expand_test

import (
	"fmt"
	"math"
	"slices"
	"strconv"
	"strings"
	"testing"

	"burin/api"
	"burin/expand"
	"burin/macro"
	"burin/token"
)

// lex are the tokens of a text's lines, numbered from 1 on.
func lex(t *testing.T, s string) []api.Tok {
	t.Helper()
	var lines []api.Line
	for i, line := range strings.Split(s, "\n") {
		lines = append(lines, api.Line{N: i + 1, S: line})
	}
	l, e, n := token.Lex(lines)
	if e != api.OK {
		t.Fatalf("Lex(%.200q): %d, %d", s, e, n)
	}
	return l
}

// macros are a table of definitions that are parted by line ends, and the same as a map.
func macros(t *testing.T, defs string) (*macro.Table, map[string]api.Macro) {
	t.Helper()
	tab, all := macro.New(), map[string]api.Macro{}
	for _, d := range strings.Split(defs, "\n") {
		if d == "" {
			continue
		}
		m, e := macro.Parse(lex(t, d))
		if e != api.OK {
			t.Fatalf("Parse(%.200q): %d", d, e)
		}
		if e := tab.Define(m); e != api.OK {
			t.Fatalf("Define(%.200q): %d", d, e)
		}
		all[m.Name] = m
	}
	return tab, all
}

// show keeps a failure of a long list readable.
func show(l []api.Tok) string { return fmt.Sprintf("%.600s", fmt.Sprintf("%+v", l)) }

// spelt is a text on one line, as far as blanks tell.
func spelt(l []api.Tok) string { return strings.ReplaceAll(token.Spell(l), "\n", " ") }

func wantFault(t *testing.T, what string, tab *macro.Table, l []api.Tok, errno api.Errno, line int) {
	t.Helper()
	got, e, n := expand.Expand(tab, l)
	if len(got) != 0 || e != errno || n != line {
		t.Errorf("%.200s: %s, %d, %d; want %d, %d", what, show(got), e, n, errno, line)
	}
}

// wantBare holds an expansion against the second reading.
func wantBare(t *testing.T, tab *macro.Table, all map[string]api.Macro, l []api.Tok) bool {
	t.Helper()
	want, errno, line := bareExpand(all, l)
	got, e, n := expand.Expand(tab, l)
	if slices.Equal(got, want) && e == errno && n == line {
		return true
	}
	t.Errorf("%.200q, of %.300s:\n%s, %d, %d;\nwant %s, %d, %d", token.Spell(l), fmt.Sprint(all), show(got), e, n, show(want), errno, line)
	return false
}

type expansion struct{ defs, text, want string }

func (x expansion) check(t *testing.T) {
	t.Helper()
	tab, all := macros(t, x.defs)
	l := lex(t, x.text)
	got, e, n := expand.Expand(tab, l)
	if s := spelt(got); s != x.want || e != api.OK || n != 0 {
		t.Errorf("%q, of %q: %q, %d, %d; want %q", x.text, x.defs, s, e, n, x.want)
	}
	wantBare(t, tab, all, l)
}

// P4.1: what replaces a macro without Func, and one with.
func TestExpand(t *testing.T) {
	for _, x := range []expansion{
		{"", "", ""},
		{"X 1", "", ""},
		{"X 1", "x X XX X1 'X' \"X\" 1X X", "x 1 XX X1 'X' \"X\" 1X 1"},
		{"X", "X a X b X", "a b"},
		{"X 1 + 2", "(X)*X", "(1 + 2)*1 + 2"},
		{"X 1 + Y\nY X", "X Y", "1 + X 1 + Y"},
		{"A B\nB C\nC D", "A B C D", "D D D D"},
		{"X # a ## b ## c #", "X", "# abc #"},
		{"X Y()\nY() 1", "X Y", "1 Y"},
		{"F() 1", "F() F( ) F F(\n)", "1 1 F 1"},
		{"F(a) a", "F(1) F((1, 2)) F(()) F() F(F(F(3)))", "1 (1, 2) () 3"},
		{"F(a) a", "F", "F"},
		{"F(a) a", "F F ( 1 )", "F 1"},
		{"F(a) <a>", "F\n(\n1\n)", "<1>"},
		{"F(a, b) b a", "F(1, 2) F(,) F(1,) F(,2) F((,),)", "2 1 1 2 (,)"},
		{"X F\nF(a) <a>", "X(1)", "<1>"},
		{"L (\nF(a) <a>", "F L 1)", "F ( 1)"},
		{"X F(\nF(a) <a>", "X 1)", "<1>"},
		{"X F(1\nY )\nF(a) <a>", "X + 2)", "<1 + 2>"},
		{"F(a) a\nX F", "F(X)(1)", "F(1)"},
		{"F(a) a(2)\nG(a) [a]", "F(G)", "[2]"},
		{"C ,\nF(a) <a>\nG(a, b) <a|b>\nH(a) G(a)", "F(C) H(1 C 2)", "<,> <1|2>"},
		{"F(x) x F(2)", "F(F(1))", "1 F(2) F(2)"},
		{"F(F) F", "F(1) F(F) F(F(2))", "1 F 2"},
		{"F(a) b\nb a\na 1", "F(2)", "1"},
		{"F(a, b) a b\nx y", "F(b, a) F(x, x)", "b a y y"},
		{"F(a) a a", "F(F(1))", "1 1 1 1"},
	} {
		x.check(t)
	}
}

// P4.1: arguments, with More too.
func TestMore(t *testing.T) {
	for _, x := range []expansion{
		{"G(...) H(__VA_ARGS__)\nH(a, b) [a|b]", "G(1, 2)", "[1|2]"},
		{"G(...) <__VA_ARGS__>", "G() G(1) G(1, 2) G(,) G(,1,) G((,),)", "<> <1> <1, 2> <,> <,1,> <(,),>"},
		{"F(a, ...) a __VA_ARGS__", "F(1)", "1"},
		{"F(a, ...) <a|__VA_ARGS__>", "F() F(1) F(1,) F(1,2) F(1,2,3) F(,) F(,,) F((1,2),(3,4),5)", "<|> <1|> <1|> <1|2> <1|2,3> <|> <|,> <(1,2)|(3,4),5>"},
		{"F(a, b, ...) <b|__VA_ARGS__|a>", "F(1,2) F(1,2,) F(1,2,3, 4)", "<2||1> <2||1> <2|3, 4|1>"},
		{"F(a, ...) #__VA_ARGS__ #a", "F(1) F(1,) F(x , y ,z)", "\"\" \"1\" \"\" \"1\" \"y ,z\" \"x\""},
		{"G(...) #__VA_ARGS__", "G( ) G(X ,\nY)", "\"\" \"X , Y\""},
		{"G(...) a ## __VA_ARGS__ ## b", "G() G(1) G(1, 2)", "ab a1b a1, 2b"},
		{"F(a, ...) a, ## __VA_ARGS__ x", "F(1) F(1,)", "1, x 1, x"},
		{"X 1\nG(...) __VA_ARGS__", "G(X, X) G(G(X, X), X)", "1, 1 1, 1, 1"},
	} {
		x.check(t)
	}
}

// P4.1: what is pasted.
func TestPaste(t *testing.T) {
	for _, x := range []expansion{
		{"F(a, b) a ## b # a", "F(x , y z)", "xy z \"x\""},
		{"P(a, b) a ## b", "P(, x) P(x, ) P(,) P(1, 2) P(+, +) P(., 5) P(<, <=) P(#, #) P(1, .5) P(1, e) P(a b, c d)", "x x 12 ++ .5 <<= ## 1.5 1e a bc d"},
		{"P(a, b) a ## b\nX 1\nXX 2\nY X", "P(X, X) P(X, Y) P(X,) P(, Y)", "2 XY 1 1"},
		{"P(a, b, c) a ## b ## c", "P(1, 2, 3) P(, 4, 5) P(6, , 7) P(8, 9, ) P(10, , ) P(, 11, ) P(, , 12) P(, , )", "123 45 67 89 10 11 12"},
		{"P(a, b) x a ## b y", "P(,) P(1,) P(,2) P(1,2)", "x y x 1 y x 2 y x 12 y"},
		{"P(a, b) <a ## b>", "P(,) P(x y, z w)", "<> <x yz w>"},
		{"P(a) a ## a a", "P(X)\nP(x) P()", "XX X xx x"},
		{"P(a) a ## a a\nX 1", "P(X)", "XX 1"},
		{"P(a) +## a ## +", "P()", "++"},
		{"P(a) x ## ## a", "P(1)", "x1"},
		{"P(a, b) a ## ## b", "P(1, 2) P(, 2) P(1,)", "12 2 1"},
		{"P(a) a ## #a", "P()", "\"\""},
		{"X a ## b ## 1\nab1 Y\nY 5", "X", "5"},
		{"J(a, b) P(a, b)\nP(a, b) a ## b\nX 1", "J(X, X) P(X, X) J(J(X, 2), 3)", "11 XX 123"},
		{"X P(Y, Y)\nP(a, b) a ## b\nYY X", "X", "X"},
		{"P(a) a ## ( a )", "P()", "( )"},
		{"P(a) ( ## a)", "P() )", "() )"},
		{"P(a) a ## X ## a\nX 1", "P() P(2)", "1 2X2"},
	} {
		x.check(t)
	}
}

// P4.1: the text of an argument.
func TestText(t *testing.T) {
	for _, x := range []expansion{
		{"S(a) #a", "S() S( ) S(x) S( x  y )", `"" "" "x" "x y"`},
		{"S(a) # a", "S(a+b) S(a + b) S(a\n+\n\nb) S(\na)", `"a+b" "a + b" "a + b" "a"`},
		{"S(a) #a", "S( \"x\\n\"  'y' )", `"\"x\\n\" 'y'"`},
		{"S(a) #a", `S("a" "b"'"' '\'') S("\\") S('\\')`, `"\"a\" \"b\"'\"' '\\''" "\"\\\\\"" "'\\\\'"`},
		{"S(a) #a", `S(\\) S(\n) S(: @\n) S(\ x)`, `"\\" "\n" ": @\n" "\ x"`},
		{"S(a) #a", `S((")", ",")) S('(')`, `"(\")\", \",\")" "'('"`},
		{"S(a) #a\nX 1\nT(a) S(a)", "S(X) T(X) T(T(X)) S(S(X))", `"X" "1" "\"1\"" "S(X)"`},
		{"S(a) #a", "S(/**/ x /* y */ z // w\n)", `"x z"`},
		{"S(a) x#a #a# a", "S(1)", `x"1" "1""1"`},
		{"S(a, b) #b #a", "S(1, 2)", `"2" "1"`},
	} {
		x.check(t)
	}
	tab, _ := macros(t, "S(a) #a")
	for _, s := range []string{`S(\)`, `S(x \)`, `S(\\\)`, `S(\ \)`, `S("" \)`} {
		wantFault(t, s, tab, lex(t, s), api.ErrPaste, 1)
	}
	// No file's token is one of these; a text of them must still be one.
	for _, s := range []string{`"`, `a"b`, `" + "`, `"" "`, `\`} {
		for _, kind := range []int{api.TName, api.TNumber, api.TPunct, api.TOther, 0, 77} {
			l := lex(t, "S(x)")
			l[2].Kind, l[2].S = kind, s
			wantFault(t, s, tab, l, api.ErrPaste, 1)
		}
	}
}

// P4.1: examples of C's own.
func TestStandard(t *testing.T) {
	const first = "x 2\nf(a) f(x * (a))\ng f\nz z[0]\nh g(~\nm(a) a(w)\nw 0,1\nt(a) a\np() int\nq(x) x\nr(x,y) x ## y\nstr(x) # x"
	const second = "str(s) # s\nxstr(s) str(s)\ndebug(s, t) printf(\"x\" # s \"= %d, x\" # t \"= %s\", x ## s, x ## t)\nINCFILE(n) vers ## n\nglue(a, b) a ## b\nxglue(a, b) glue(a, b)\nHIGHLOW \"hello\"\nLOW LOW \", world\""
	const third = "hash_hash # ## #\nmkstr(a) # a\nin_between(a) mkstr(a)\njoin(c, d) in_between(c hash_hash d)"
	const fourth = "debug(...) fprintf(stderr, __VA_ARGS__)\nshowlist(...) puts(#__VA_ARGS__)\nreport(test, ...) ((test)?puts(#test): printf(__VA_ARGS__))"
	for _, x := range []expansion{
		{first, "f(y+1) + f(f(z)) % t(t(g)(0) + t)(1);", "f(2 * (y+1)) + f(2 * (f(2 * (z[0])))) % f(2 * (0)) + t(1);"},
		{first, "g(x+(3,4)-w) | h 5) & m\n(f)^m(m);", "f(2 * (2+(3,4)-0,1)) | f(2 * (~ 5)) & f(2 * (0,1))^m(0,1);"},
		{first, "p() i[q()] = { q(1), r(2,3), r(4,), r(,5), r(,) };", "int i[] = { 1, 23, 4, 5, };"},
		{first, "char c[2][6] = { str(hello), str() };", "char c[2][6] = { \"hello\", \"\" };"},
		{second, "debug(1, 2);", "printf(\"x\" \"1\" \"= %d, x\" \"2\" \"= %s\", x1, x2);"},
		{second, "fputs(str(strncmp(\"abc\\0d\", \"abc\", '\\4') // this goes away\n== 0) str(: @\\n), s);", "fputs(\"strncmp(\\\"abc\\\\0d\\\", \\\"abc\\\", '\\\\4') == 0\" \": @\\n\", s);"},
		{second, "xstr(INCFILE(2).h) glue(HIGH, LOW); xglue(HIGH, LOW)", "\"vers2.h\" \"hello\"; \"hello\" \", world\""},
		{third, "char p[] = join(x, y);", "char p[] = \"x ## y\";"},
		{fourth, "debug(\"Flag\"); debug(\"X = %d\\n\", x);", "fprintf(stderr, \"Flag\"); fprintf(stderr, \"X = %d\\n\", x);"},
		{fourth, "showlist(The first, second, and third items.);", "puts(\"The first, second, and third items.\");"},
		{fourth, "report(x>y, \"x is %d but y is %d\", x, y);", "((x>y)?puts(\"x>y\"): printf(\"x is %d but y is %d\", x, y));"},
	} {
		x.check(t)
	}
}

// P4.1: names that are hidden: of the name, of its bracket, of both of what is pasted.
func TestHidden(t *testing.T) {
	for _, x := range []expansion{
		{"X X", "X", "X"},
		{"X (X)", "X", "(X)"},
		{"X Y\nY Z\nZ X Y Z", "X Y Z", "X Y Z Y Y Z Z Z Z"},
		{"F(a) F(a)", "F(1) F(F(1))", "F(1) F(F(1))"},
		{"F(a) a F", "F(1)(2)", "1 F(2)"},
		// The bracket is the text's own: what is hidden of the name alone is free again.
		{"F(a) a G\nG(a) a F", "F(1)(2)(3)(4)", "1 2 3 4 F"},
		{"F(a) a G\nG(a) a F", "F(1)(2) F(1)", "1 2 F 1 G"},
		// The bracket stands in the body, so both have it.
		{"F(a) a G(2)\nG(a) a F(3)", "F(1)", "1 2 F(3)"},
		// The name has it, the bracket has not, and the other way round.
		{"X F(X\nF(a) a", "X)", "X"},
		{"X F(Y\nF(a) a Z\nZ X", "X) )", "Y F(Y )"},
		{"F(a) G a\nG(a) [a Y]\nY ( 1 )", "F(Y)", "[1 ( 1 )]"},
		{"NIL(xxx) xxx\nG_0(arg) NIL(G_1)(arg)\nG_1(arg) NIL(arg)", "G_0(42)", "42"},
		{"f(x) x f\ng(x) f(x)", "f(f)(1) f(f(1)) g(f)(2)", "f f(1) 1 f f f f(2)"},
		{"obj(x) x other\nother(x) x obj", "obj(1)(2)(3)(obj(4)(5))", "1 2 3 4 5 obj obj"},
		// What is pasted has only what both have.
		{"AB P(A\nP(a) a ## B", "AB ) )", "P(A )"},
		{"AB P(A, B)\nP(a, b) a ## b", "AB", "AB"},
		{"AB P(A, B\nP(a, b) a ## b", "AB ) )", "AB )"},
		{"AB P(A) A\nP(a) a ## B\nA B", "AB", "AB B"},
		{"AB Q(A\nQ(a) P(a, B)\nP(a, b) a ## b", "AB ) )", "Q(A )"},
		// Of an argument's tokens it stays hidden, whoever is handed them.
		{"F(a) a\nX F(X)", "X F(X) F(F(X))", "X X X"},
		{"F(a) a a\nX <X F>", "F(X)", "<X F> <X F>"},
		{"F(a) a(1)\nX F\nG(a) F(a)", "F(F) G(F) F(X)", "F(1) F(1) F(1)"},
		{"S(a) #a\nX S(X) X", "X", "\"X\" X"},
		// A text has nothing hidden, nor has a token of the body.
		{"F(a) G(a)\nG(a) a H\nH 1", "F(2)", "2 1"},
	} {
		x.check(t)
	}
}

// P4.1: File, Line, Space and First of what is told.
func TestPlaces(t *testing.T) {
	tok := func(kind int, s string, line int, space, first bool) api.Tok {
		return api.Tok{Kind: kind, S: s, File: "f" + strconv.Itoa(line), Line: line, Space: space, First: first}
	}
	name := func(s string, line int, space, first bool) api.Tok { return tok(api.TName, s, line, space, first) }
	sign := func(s string, line int, space, first bool) api.Tok { return tok(api.TPunct, s, line, space, first) }
	for _, c := range []struct {
		defs, text string
		want       []api.Tok
	}{
		{"", " a\nb", []api.Tok{name("a", 1, true, true), name("b", 2, false, true)}},
		{"X a b", "x\n X", []api.Tok{name("x", 1, false, true), name("a", 2, true, true), name("b", 2, true, false)}},
		{"X a+b", "x X", []api.Tok{name("x", 1, false, true), name("a", 1, true, false), sign("+", 1, false, false), name("b", 1, false, false)}},
		{"X a\nY X X", "+Y", []api.Tok{sign("+", 1, false, true), name("a", 1, false, false), name("a", 1, true, false)}},
		// What comes to nothing takes its place along.
		{"X", "a\n X b", []api.Tok{name("a", 1, false, true), name("b", 2, true, false)}},
		// An argument's tokens are where the name is; line ends are blanks.
		{"F(a) <a>", "F(\nx\ny+\n+)z", []api.Tok{sign("<", 1, false, true), name("x", 1, false, false), name("y", 1, true, false), sign("+", 1, false, false), sign("+", 1, true, false), sign(">", 1, false, false), name("z", 4, false, false)}},
		{"F(a) < a >", "\nF(x)", []api.Tok{sign("<", 2, false, true), name("x", 2, true, false), sign(">", 2, true, false)}},
		{"F(a) a", "- F(\nx y)", []api.Tok{sign("-", 1, false, true), name("x", 1, true, false), name("y", 1, true, false)}},
		{"F(a) a", "-F( x y)", []api.Tok{sign("-", 1, false, true), name("x", 1, false, false), name("y", 1, true, false)}},
		// Expanded, or as they are.
		{"F(a) +a\nX x\nx\ny", "F(x\nX X)", []api.Tok{sign("+", 1, false, true)}},
		{"F(a) +a\nX z w", "F(x\nX\nX)", []api.Tok{sign("+", 1, false, true), name("x", 1, false, false), name("z", 1, true, false), name("w", 1, true, false), name("z", 1, true, false), name("w", 1, true, false)}},
		{"F(a, b)+a ## b", "F(x\ny,z\nw)", []api.Tok{sign("+", 1, false, true), name("x", 1, false, false), name("yz", 1, true, false), name("w", 1, true, false)}},
		{"F(a, b)+ a##b", "F(x, y)", []api.Tok{sign("+", 1, false, true), name("xy", 1, true, false)}},
		{"F(a, b)+a ## b", "F(x, y)F(,y)F( x,)", []api.Tok{sign("+", 1, false, true), name("xy", 1, false, false), sign("+", 1, false, false), name("y", 1, true, false), sign("+", 1, false, false), name("x", 1, false, false)}},
		{"F(a, b)+ a ##b", "F(,y)", []api.Tok{sign("+", 1, false, true), name("y", 1, false, false)}},
		{"F(a)+#a # a", "F( x )", []api.Tok{sign("+", 1, false, true), tok(api.TText, "\"x\"", 1, false, false), tok(api.TText, "\"x\"", 1, true, false)}},
		{"F(a) #a", "+\nF(x)", []api.Tok{sign("+", 1, false, true), tok(api.TText, "\"x\"", 2, false, true)}},
		{"P(a, b) a ## b", "P(1, 2) P('a', ) P(-, >)", []api.Tok{tok(api.TNumber, "12", 1, false, true), tok(api.TChar, "'a'", 1, true, false), sign("->", 1, true, false)}},
		// The name is on one line, what is behind it on another one.
		{"X F\nF(a) a Y\nY 1", "X\n(x\n)", []api.Tok{name("x", 1, false, true), tok(api.TNumber, "1", 1, true, false)}},
		{"F(a) <a G\nG(a) a>", "F\n(x)\n(y\n)", []api.Tok{sign("<", 1, false, true), name("x", 1, false, false), name("y", 1, true, false), sign(">", 1, false, false)}},
	} {
		tab, all := macros(t, c.defs)
		l := lex(t, c.text)
		for i := range l {
			l[i].File = "f" + strconv.Itoa(l[i].Line)
		}
		if got, e, n := expand.Expand(tab, l); !slices.Equal(got, c.want) || e != api.OK || n != 0 {
			t.Errorf("%q, of %q: %s, %d, %d; want %s", c.text, c.defs, show(got), e, n, show(c.want))
		}
		wantBare(t, tab, all, l)
	}
}

// P4.1: what is refused, and at which line.
func TestFaults(t *testing.T) {
	for _, c := range []struct {
		defs, text string
		errno      api.Errno
		line       int
	}{
		{"F(a) a", "F(1, 2)", api.ErrCall, 1},
		{"F(a) a", "F(", api.ErrCall, 1},
		{"F(a) a", "x\nF\n(1", api.ErrCall, 2},
		{"F(a) a", "F((1)", api.ErrCall, 1},
		{"F() 1", "F(1)", api.ErrCall, 1},
		{"F() 1", "F(,)", api.ErrCall, 1},
		{"F() 1", "F(())", api.ErrCall, 1},
		{"F(a, b) a", "F()", api.ErrCall, 1},
		{"F(a, b) a", "F((1, 2))", api.ErrCall, 1},
		{"F(a, b) a", "F(1, 2, 3)", api.ErrCall, 1},
		{"F(a, b, ...) a", "F(1)", api.ErrCall, 1},
		{"F(a, b, ...) a", "F()", api.ErrCall, 1},
		{"G(...) 1", "G(", api.ErrCall, 1},
		{"F(a) a", "F(F()", api.ErrCall, 1},
		{"P(a, b) a ## b", "P(+, /)", api.ErrPaste, 1},
		{"P(a, b) a ## b", "\nP(/, /)", api.ErrPaste, 2},
		{"P(a, b) a ## b", "P(/, *)", api.ErrPaste, 1},
		{"P(a, b) a ## b", "P(a, +)", api.ErrPaste, 1},
		{"P(a, b) a ## b", "P(a, \"b\")", api.ErrPaste, 1},
		{"P(a, b) a ## b", "P('a', 'b')", api.ErrPaste, 1},
		{"P(a, b) a ## b", "P(@, @)", api.ErrPaste, 1},
		{"P(a, b) a ## b", "P(., .)", api.ErrPaste, 1},
		{"P(a, b, c) a ## b ## c", "P(., ., .)", api.ErrPaste, 1}, // from left to right
		{"P(a, b, c) a ## b ## c", "P(1, e, +) P(x, 1, e) P(+, 1, e)", api.ErrPaste, 1},
		{"P(a, b) #a ## b ## #b", "P(1,)", api.ErrPaste, 1},
		{"X a ## +", "x\ny X", api.ErrPaste, 2},
		{"X . . ## .", "X", api.ErrPaste, 1},
		{"S(a) # a", "x\n\nS(\n\\)", api.ErrPaste, 3},
		// The name whose macro it is tells the line, be it within an argument, or of a replacement.
		{"F(a) a\nG() 1", "F(\nG\n(1)\n)", api.ErrCall, 2},
		{"F(a) a\nX G(1)\nG() 1", "F(\nx\nX)", api.ErrCall, 3},
		{"F(a) a G(1)\nG() 1", "x\nF(\n1)", api.ErrCall, 2},
		{"X F\nF(a) a", "\nX\n\n(", api.ErrCall, 2},
		{"F(a) a(\nG() 1", "F(\nG)\n1)", api.ErrCall, 1},
		// The first one that is met.
		{"F(a, b) a ## + b\nG() 1", "F(x,\nG(1))", api.ErrPaste, 1},
		{"F(a, b) b a ## +\nG() 1", "F(x,\nG(1))", api.ErrCall, 2},
		{"F(a, b) #a b\nG() 1", "F(\\,\nG(1))", api.ErrPaste, 1},
		{"F(a, b) b #a\nG() 1", "F(\\,\nG(1))", api.ErrCall, 2},
		{"F(a, b) a b\nG() 1\nP(a) a ## +", "F(\nP(x),\nG(1))", api.ErrPaste, 2},
		{"F(a, b) b a\nG() 1\nP(a) a ## +", "F(\nP(x),\nG(1))", api.ErrCall, 3},
		{"F(a, b) a\nP(a) a ## +", "F(\nP(x),1,2)", api.ErrCall, 1},
		{"F(a) a\nP(a) a ## +", "F(\nP(x)", api.ErrCall, 1},
		{"S(a) #a\nG(a) 1", "S(G(1, 2)) S(G()", api.ErrCall, 1},
		{"F(a) a ## 1\nG() 2", "F(\nG(3) x)", api.ErrCall, 1},
		{"F(a) a\nP(a) a ## +", "F(x)\nP(x)\nF(", api.ErrPaste, 2},
	} {
		tab, all := macros(t, c.defs)
		l := lex(t, c.text)
		wantFault(t, c.defs+": "+c.text, tab, l, c.errno, c.line)
		wantBare(t, tab, all, l)
	}
	// Arguments that are expanded nowhere are not looked into.
	for _, x := range []expansion{
		{"F(a) 1\nG() 2", "F(G(3))", "1"},
		{"F(a) #a\nG() 2", "F(G(3))", "\"G(3)\""},
		{"F(a) a ## 1\nG() 2", "F(x F(3, 4) y)", "x F(3, 4) y1"},
		{"F(a, b) b\nG() 2", "F(G(3), 4)", "4"},
	} {
		x.check(t)
	}
	// A line may be any number.
	tab, _ := macros(t, "F(a) a")
	for _, line := range []int{math.MinInt, -1, 0, math.MaxInt} {
		l := lex(t, "F(")
		l[0].Line = line
		wantFault(t, "line", tab, l, api.ErrCall, line)
	}
}

// times is a text, so many times, each on a line of its own.
func times(n int, s string) string { return strings.Repeat(s+"\n", n) }

// P4.1: how many steps there may be, and one more: each replacement, and each of its tokens.
func TestSteps(t *testing.T) {
	for _, c := range []struct {
		defs, text string
		cost       int
	}{
		{"X 1", "X", 2},
		{"X 1 2 3", "X", 4},
		{"X Y Y\nY 1", "X", 7},
		{"F(a) a", "F(1)", 2},
		{"F(a) a", "F()", 1},
		{"F(a) a", "F(1 2 3)", 4},
		{"F(a) x", "F(1 2 3)", 2},
		{"F(a) #a", "F(1 2 3)", 2},
		{"F(a) a ## a", "F(1 2 3)", 6},
		{"F(a) a a\nX 1", "F(X)", 7}, // each time anew
		{"F(a) a a\nX 1", "F(F(X))", 2*7 + 5},
		{"F(a) a ## 1\nX 1", "F(X)", 2}, // as it is
		{"F(a) #a\nX 1", "F(X)", 2},
		{"F(a) a\nX 1", "F(X X)", 7},
		{"F(a, b) b\nX 1", "F(X, X)", 4},
		{"G(...) __VA_ARGS__\nX 1", "G(X, X)", 8},
		{"X X", "X", 2},
		{"F(a) a", "F", 0},
		{"", "Y", 0},
	} {
		tab, _ := macros(t, c.defs+"\nE\nH"+strings.Repeat(" 1", 99))
		const n = 1000
		// What is left is paid by H, of a hundred steps, and E, of one.
		spare := 20000 - n*c.cost
		pay := times(spare/100, "H") + times(spare%100, "E")
		l := lex(t, times(n, c.text)+pay)
		if got, e, line := expand.Expand(tab, l); e != api.OK || line != 0 {
			t.Errorf("%s: %s: %s, %d, %d", c.defs, c.text, show(got), e, line)
		}
		l = lex(t, times(n, c.text)+pay+"E")
		wantFault(t, c.defs+": "+c.text, tab, l, api.ErrSteps, n+spare/100+spare%100+1)
	}
}

// P4.1: which replacement ends the steps, and what comes ahead of it.
func TestStepsWhere(t *testing.T) {
	for _, c := range []struct {
		what, defs, text string
		errno            api.Errno
		line             int
	}{
		{"within an argument", "F(a) a\nX 1", "F(\n" + times(9999, "X") + "X)", api.ErrSteps, 1},
		{"in the argument itself", "F(a) a\nX 1\nE", "F(\n" + times(10000, "X") + "E)", api.ErrSteps, 10002},
		{"behind it", "F(a) a\nX 1\nE", "F(\n" + times(6666, "X") + ")", api.OK, 0},
		{"a token more", "F(a) a\nX 1\nE", "F(\n" + times(6666, "X") + "1 2)", api.ErrSteps, 1},
		{"at the end of a great one", "F(a) a ## a ## a\nX 1", "x\nF(" + strings.Repeat("1 ", 6667) + ")", api.OK, 0},
		{"one token more", "F(a) a ## a ## a\nX 1", "x\nF(" + strings.Repeat("1 ", 6668) + ")", api.ErrSteps, 2},
		{"a long argument", "F(a) a x y z", "F(" + strings.Repeat("1 ", 19996) + ")", api.OK, 0},
		{"a long argument, and one more", "F(a) a w x y z", "\n\nF(" + strings.Repeat("1 ", 19996) + ")", api.ErrSteps, 3},
		{"a paste behind many", "F(a) a a a a a ## +\nX 1", "x\nF(" + strings.Repeat("1 ", 9000) + ")", api.ErrPaste, 2},
		{"no paste behind many", "F(a, b) a a a a ## b ## +\nX 1", "x\nF(" + strings.Repeat("+ ", 9000) + ",)", api.ErrSteps, 2},
		{"nothing pasted behind many", "F(a, b) a a a b ## / b\nX 1", "x\nF(" + strings.Repeat("+ ", 9000) + ",)", api.ErrSteps, 2},
		{"a text behind many", "F(a, b) a a a a a #b\nX 1", "x\nF(" + strings.Repeat("1 ", 9000) + ",\\)", api.ErrPaste, 2},
		{"a call behind many", "F(a, b) a a a a b\nG() 1", "x\nF(" + strings.Repeat("1 ", 9000) + ",\nG(1))", api.ErrCall, 3},
		{"a paste ahead", "F(a) a ## + a a a\nX 1", "x\nF(" + strings.Repeat("1 ", 9000) + ")", api.ErrPaste, 2},
		{"twice as many each time", "X0 X1 X1\n" + doubling(1, 30) + "X30 1", "x\nX0", api.ErrSteps, 2},
		{"without an end", "F(a) a(F)(a)\nG(a) F(a)(G)", "\n\nF(F)", api.OK, 0},
		{"all of a body, each a great argument", "F(a) a" + strings.Repeat(" ## a", 249) + "\nX 1", "x\nF(" + strings.Repeat("1 ", 19990) + ")", api.ErrSteps, 2},
		{"all of a body, each expanded", "F(a) " + strings.Repeat("a ", 100) + "\nX 1", "x\nF(" + strings.Repeat("b ", 19990) + ")", api.ErrSteps, 2},
	} {
		t.Run(c.what, func(t *testing.T) {
			t.Parallel()
			tab, _ := macros(t, c.defs)
			l := lex(t, c.text)
			if c.errno != api.OK {
				wantFault(t, c.what, tab, l, c.errno, c.line)
			} else if got, e, n := expand.Expand(tab, l); e != api.OK || n != 0 {
				t.Errorf("%s: %s, %d, %d", c.what, show(got), e, n)
			}
		})
	}
}

// doubling are macros each of which is the next one twice.
func doubling(from, to int) string {
	s := ""
	for i := from; i < to; i++ {
		s += fmt.Sprintf("X%d X%d X%d\n", i, i+1, i+1)
	}
	return s
}

// P4.1: how many tokens there may be; that goes ahead of all.
func TestMany(t *testing.T) {
	tab, _ := macros(t, "F(a) a\nE")
	var none *macro.Table
	plain := lex(t, strings.Repeat("x ", 20000))
	for _, each := range []*macro.Table{tab, macro.New(), none} {
		if got, e, n := expand.Expand(each, plain); !slices.Equal(got, plain) || e != api.OK || n != 0 {
			t.Error(len(got), e, n)
		}
		wantFault(t, "20001", each, append(slices.Clone(plain), plain[0]), api.ErrMany, 0)
		wantFault(t, "40000", each, slices.Concat(plain, plain), api.ErrMany, 0)
	}
	call := lex(t, "F(")
	wantFault(t, "F( ahead", tab, slices.Concat(call, plain), api.ErrMany, 0)
	wantFault(t, "F( ahead of 20000", tab, slices.Concat(call, plain)[:20000], api.ErrCall, 1)
	// More than 20000 may be told.
	l := lex(t, strings.Repeat("x ", 19959)+"F("+strings.Repeat("y ", 37)+"z)")
	tab, _ = macros(t, "F(a) a"+strings.Repeat(" a", 499))
	got, e, _ := expand.Expand(tab, l)
	if e != api.OK || len(got) != 19959+500*38 {
		t.Error(len(got), e)
	}
}

// R1, R5: calls within calls, as deep as tokens go.
func TestDeep(t *testing.T) {
	const n = 6666
	tab, _ := macros(t, "F(a) a\nX F\nY F(\nN 1")
	l := lex(t, strings.Repeat("F(", n)+"N"+strings.Repeat(")", n))
	if got, e, _ := expand.Expand(tab, l); e != api.OK || token.Spell(got) != "1" {
		t.Error(show(got), e)
	}
	wantFault(t, "one bracket less", tab, l[:len(l)-1], api.ErrCall, 1)
	l = lex(t, strings.Repeat("X(", n)+"N"+strings.Repeat(")", n))
	wantFault(t, "X", tab, l, api.ErrSteps, 1)
	if got, e, _ := expand.Expand(tab, l[3332*2:len(l)-3332]); e != api.OK || token.Spell(got) != "1" {
		t.Error(show(got), e)
	}
	// Each call holds its argument as it is while it expands it once more, and none of them is copied.
	tab2, _ := macros(t, "Q(a) 1 ## a a")
	wantFault(t, "Q", tab2, lex(t, strings.Repeat("Q(", n)+"1"+strings.Repeat(")", n)), api.ErrSteps, 1)
	// A bracket that only comes to be does not hold the others back.
	wantFault(t, "Y", tab, lex(t, "Y Y N))"), api.ErrCall, 1)
	wantFault(t, "open", tab, lex(t, strings.Repeat("F(", 10000)), api.ErrCall, 1)
	if got, e, _ := expand.Expand(tab, lex(t, "F"+strings.Repeat("(", 9999)+strings.Repeat(")", 9999))); e != api.OK || len(got) != 19996 {
		t.Error(len(got), e)
	}
	// All macros that a table may have, one within the other.
	defs := ""
	for i := range 999 {
		defs += fmt.Sprintf("M%d M%d M%d\n", i, i+1, i)
	}
	tab, _ = macros(t, defs+"M999 x")
	got, e, _ := expand.Expand(tab, lex(t, "M0"))
	if e != api.OK || len(got) != 1000 || got[0].S != "x" || got[1].S != "M998" || got[999].S != "M0" {
		t.Error(show(got), e)
	}
}

// P4.2: without macros nothing is another one, whatever it is.
func TestNoMacros(t *testing.T) {
	var none *macro.Table
	tab, _ := macros(t, "X 1\nF(a) a")
	for _, l := range [][]api.Tok{
		nil, {}, lex(t, "a b(c, \"d\") # ## 'e'\n\n @ 1"), make([]api.Tok, 3),
		{{Kind: -1, S: "X"}, {Kind: api.TNumber, S: "X", Line: -5, File: "f", Space: true}, {Kind: api.TText, S: "F"}, {Kind: api.TPunct, S: "("}, {Kind: 7, S: "X"}},
	} {
		for _, each := range []*macro.Table{none, macro.New(), {}, tab} {
			if got, e, n := expand.Expand(each, l); !slices.Equal(got, l) || e != api.OK || n != 0 {
				t.Errorf("%s: %s, %d, %d", show(l), show(got), e, n)
			}
		}
	}
}

// P4.2: what was expanded by macros without Func, whose names stand in no body, stays; a macro that is its own name is told as it is.
func TestOnceMore(t *testing.T) {
	for _, c := range []struct{ defs, text string }{
		{"X 1 + x\nY\nZ \"X\" ( ) ,\nXY y ## z", "X Y Z\nXY X+X(Z)\nY\n X"},
		{"X a ## b\nab c", "X ab\nX"},
		{"a1 1 2\nA a ## 1", "A a1 A\n\n A"},
	} {
		tab, all := macros(t, c.defs)
		once, e, _ := expand.Expand(tab, lex(t, c.text))
		if e != api.OK {
			t.Error(c.defs, e)
		}
		if twice, e, n := expand.Expand(tab, once); !slices.Equal(once, twice) || e != api.OK || n != 0 {
			t.Errorf("%q: %s, %d; once %s", c.text, show(twice), e, show(once))
		}
		wantBare(t, tab, all, once)
	}
	tab, _ := macros(t, "X X\nY Y\nF F")
	l := lex(t, " X+X Y F(X)\nX\n  Y")
	for i := range l {
		l[i].File = "f" + strconv.Itoa(i)
	}
	if got, e, _ := expand.Expand(tab, l); !slices.Equal(got, l) || e != api.OK {
		t.Errorf("%s, %d", show(got), e)
	}
}

// every hands on all texts that are at most so many of the pieces.
func every(pieces []string, most int, begin string, check func(string)) {
	check(begin)
	if most == 0 {
		return
	}
	for _, p := range pieces {
		every(pieces, most-1, begin+p, check)
	}
}

// P4.1: all short texts of what matters to some macros.
func TestEveryShortText(t *testing.T) {
	for _, c := range []struct {
		defs   string
		pieces []string
		most   int
	}{
		{"X F\nF(a) a G\nG(a) X a", []string{"X", "F", "G", "(", ")", " ", "\n"}, 6},
		{"F(a, b) b a ## b\nX F(\nY , X", []string{"F(", "X ", "Y ", ",", ")", " 1", "\n"}, 6},
		{"F(a, ...) a|__VA_ARGS__#a\nG(...) F(__VA_ARGS__)\nE", []string{"F(", "G(", " E", ",", ")", "x", "\n("}, 6},
		{"AB P(A\nP(a) a ## B Q\nQ(a) a AB\nA Q(A)", []string{"A ", "AB ", "P", "Q", "(", ")"}, 6},
		{"F() G\nG() F\nX )\nY F(", []string{"F", "G", "()", "(", ")", " X ", " Y "}, 5},
	} {
		t.Run(c.defs, func(t *testing.T) {
			t.Parallel()
			tab, all := macros(t, c.defs)
			every(c.pieces, c.most, "", func(s string) {
				if !t.Failed() {
					wantBare(t, tab, all, lex(t, s))
				}
			})
		})
	}
}

// P4.1: all short bodies, at arguments that have something, or nothing.
func TestEveryShortBody(t *testing.T) {
	for _, c := range []struct {
		head   string
		pieces []string
		most   int
		texts  []string
	}{
		{"F(a, b)", []string{"a", "b", " ", "#", "##", "x", "F"}, 6, []string{"F(,)", "F(x,)(1,)", "- F( x\nX , y z)(2, 3)", "F(E, xy F)(E,)", "F(, X)\n(X,)", "F(F(x, y), Y)(F(,E), 1)"}},
		{"F(a, ...) ", []string{"a", "__VA_ARGS__", " ", "##", "#", "Y", "("}, 5, []string{"F()", "F(x)", "F(X,)(y)", "F(E, X\n,y) 1)", "F(F(x),Y,F(,))(2)"}},
		{"Z ", []string{"X", "x", "##", " ", "#", "y", "Z", "+"}, 5, []string{"Z(1)", "x\nZ Z"}},
	} {
		t.Run(c.head, func(t *testing.T) {
			t.Parallel()
			every(c.pieces, c.most, c.head, func(def string) {
				m, e := macro.Parse(lex(t, def))
				if e != api.OK || t.Failed() {
					return
				}
				tab, all := macros(t, "X x Y\nY(a) y a\nE\nxy X")
				tab.Define(m)
				all[m.Name] = m
				for _, s := range c.texts {
					wantBare(t, tab, all, lex(t, s))
				}
			})
		})
	}
}

// R3: what is handed in stays as it is, spare room too, and what is answered is the caller's own.
func TestMemory(t *testing.T) {
	const defs = "X 1 F\nF(a, ...) a ## 2 #a __VA_ARGS__ X"
	tab, _ := macros(t, defs)
	text := lex(t, "x F(a b, X X)(1) y X + z w")
	handed := append(slices.Clone(text), lex(t, "spare X F")...)[:len(text)]
	room := slices.Clone(handed[:cap(handed)])
	want, e, _ := expand.Expand(tab, text)
	if e != api.OK {
		t.Fatal(e)
	}
	for range 2 {
		got, e, _ := expand.Expand(tab, handed)
		if !slices.Equal(got, want) || e != api.OK {
			t.Error(show(got), e)
		}
		if !slices.Equal(handed[:cap(handed)], room) {
			t.Error(show(handed[:cap(handed)]))
		}
		for i := range got[:cap(got)] {
			got[:cap(got)][i] = api.Tok{S: "spoilt"}
		}
		if !slices.Equal(handed[:cap(handed)], room) {
			t.Error(show(handed[:cap(handed)]))
		}
	}
	// Plain tokens are answered as others, and a table is only asked.
	got, _, _ := expand.Expand(nil, handed)
	clear(got)
	if !slices.Equal(handed, text) {
		t.Error(show(handed))
	}
	again, all := macros(t, defs)
	if !slices.Equal(tab.Names(), again.Names()) {
		t.Error(tab.Names())
	}
	for name, m := range all {
		if got, ok := tab.Get(name); !ok || !macro.Same(got, m) {
			t.Error(name, got)
		}
	}
	// R4: what a table has when it is asked counts, and nothing else.
	tab.Undef("X")
	if got, _, _ := expand.Expand(tab, lex(t, "X")); token.Spell(got) != "X" {
		t.Error(show(got))
	}
}

// R1, R2: whatever tokens are, there is an answer, and none beside an error.
func TestAnyTokens(t *testing.T) {
	tab, all := macros(t, "F(a, ...) a ## 1 #a __VA_ARGS__ F\nX F(\nE")
	whole := lex(t, "X a, F(b) E, X) F()")
	for i := range whole {
		for _, kind := range []int{math.MinInt, -1, 0, api.TName, api.TNumber, api.TChar, api.TText, api.TPunct, api.TOther, 7, math.MaxInt} {
			for _, s := range []string{"", " ", "a b", "F", "X", "E", "(", ")", ",", "#", "##", "\"", "'", "//", "/*", "\n", "\x00", "\xff", "é", "\\", "__VA_ARGS__", "defined", whole[i].S} {
				l := slices.Clone(whole)
				l[i].Kind, l[i].S = kind, s
				if !wantBare(t, tab, all, l) {
					return
				}
				if got, e, _ := expand.Expand(tab, l); e != api.OK && len(got) != 0 {
					t.Error(show(l), show(got), e)
				}
			}
		}
	}
	for a := range 256 {
		for _, s := range []string{string([]byte{byte(a)}), string([]byte{byte(a), '"'}), string([]byte{'\\', byte(a)})} {
			for kind := range 8 {
				l := lex(t, "F(x)")
				l[2].Kind, l[2].S = kind, s
				wantBare(t, tab, all, l)
			}
		}
	}
}

package unit_test

import (
	"fmt"
	"slices"
	"strconv"
	"strings"
	"testing"

	"burin/api"
	"burin/lex"
	"burin/text"
	"burin/token"
	"burin/unit"
)

func number(v int64) api.Expr       { return api.Expr{Is: api.EInt, V: v, K: api.KInt} }
func variable(name string) api.Expr { return api.Expr{Is: api.EVar, Name: name} }
func two(op int, a, b api.Expr) api.Expr {
	return api.Expr{Is: api.ETwo, Op: op, L: []api.Expr{a, b}}
}
func cast(k int, a api.Expr) api.Expr       { return api.Expr{Is: api.ECast, K: k, L: []api.Expr{a}} }
func call(n string, l ...api.Expr) api.Expr { return api.Expr{Is: api.ECall, Name: n, L: l} }

// as is an expression that has a kind.
func as(k int, e api.Expr) api.Expr {
	e.K = k
	return e
}

func decl(k int, name string, e ...api.Expr) api.Stmt {
	return api.Stmt{Is: api.XDecl, K: k, Name: name, E: e}
}
func set(name string, e api.Expr) api.Stmt {
	return api.Stmt{Is: api.XSet, Name: name, E: []api.Expr{e}}
}
func do(e api.Expr) api.Stmt { return api.Stmt{Is: api.XCall, E: []api.Expr{e}} }
func when(e api.Expr, l api.Stmt, m ...api.Stmt) api.Stmt {
	return api.Stmt{Is: api.XIf, E: []api.Expr{e}, L: []api.Stmt{l}, M: m}
}
func while(e api.Expr, l api.Stmt) api.Stmt {
	return api.Stmt{Is: api.XWhile, E: []api.Expr{e}, L: []api.Stmt{l}}
}
func give(e ...api.Expr) api.Stmt  { return api.Stmt{Is: api.XReturn, E: e} }
func block(l ...api.Stmt) api.Stmt { return api.Stmt{Is: api.XBlock, L: l} }

var leave, again = api.Stmt{Is: api.XBreak}, api.Stmt{Is: api.XContinue}

var x, y = variable("x"), variable("y")

func head(ret int, name string, args ...api.Var) api.Func {
	return api.Func{Sig: api.Sig{Name: name, Ret: ret, Args: args}}
}

func param(k int, name string) api.Var { return api.Var{Name: name, K: k} }

// with is a function with a body.
func with(f api.Func, body ...api.Stmt) api.Func {
	f.Has, f.Body = true, body
	return f
}

func unitOf(l ...api.Func) api.Unit { return api.Unit{L: l} }

// body is a unit of one function that has a parameter x, and these statements.
func body(l ...api.Stmt) api.Unit {
	return unitOf(with(head(api.KVoid, "f", param(api.KInt, "x")), l...))
}

// show keeps a failure of something great readable: of words their spellings, numbers' with their kind.
func show(v any) string {
	if l, ok := v.([]api.Word); ok {
		var told []string
		for _, w := range l {
			if w.Kind == api.WInt {
				w.S = fmt.Sprintf("%d/%d", w.V, w.T)
			}
			told = append(told, w.S)
		}
		v = told
	}
	return fmt.Sprintf("%.600s", fmt.Sprintf("%+v", v))
}

// words are a text's words: each one on a line of its own, its place and 101.
func words(t testing.TB, s string) []api.Word {
	t.Helper()
	l := lexed(t, s)
	for i := range l {
		l[i].Line = 101 + i
	}
	return l
}

// lexed are a text's words on the text's lines.
func lexed(t testing.TB, s string) []api.Word {
	t.Helper()
	lines, e := text.Lines(s)
	toks, f, _ := token.Lex(lines)
	l, g, _, _ := lex.Words(toks)
	if e != api.OK || f != api.OK || g != api.OK {
		t.Fatalf("%.200q: %d, %d, %d", s, e, f, g)
	}
	return l
}

// bareWords are a text's words, of Line 0.
func bareWords(s string) []api.Word {
	toks, _, _ := token.Lex([]api.Line{{S: s}})
	l, errno, _, _ := lex.Words(toks)
	if errno != api.OK {
		panic("no words: " + s)
	}
	return l
}

func wantParsed(t *testing.T, l []api.Word, want api.Unit) {
	t.Helper()
	u, errno, line := unit.Parse(l)
	if !bareSame(u, want) || errno != api.OK || line != 0 {
		t.Errorf("%s: %s, %d, %d; want %s", show(l), show(u), errno, line, show(want))
	}
}

// wantText reads a text, and says it again.
func wantText(t *testing.T, s string, want api.Unit) {
	t.Helper()
	wantParsed(t, words(t, s), want)
	wantWords(t, want, bareText(want))
}

// wantBody reads a text of statements within a function of a parameter x.
func wantBody(t *testing.T, s string, want ...api.Stmt) {
	t.Helper()
	wantText(t, "void f(int x) { "+s+" }", body(want...))
}

func wantNone(t *testing.T, l []api.Word, want api.Errno, where int) {
	t.Helper()
	u, errno, line := unit.Parse(l)
	if len(u.L) > 0 || errno != want || line != where {
		t.Errorf("%s: %s, %d, %d; want %d, %d", show(l), show(u), errno, line, want, where)
	}
}

// wantStop reads a text with whose word at a place nothing can go on; below 0: that is behind the last one.
func wantStop(t *testing.T, s string, errno api.Errno, place int) {
	t.Helper()
	line := 0
	if place >= 0 {
		line = 101 + place
	}
	wantNone(t, words(t, s), errno, line)
}

// wantStopIn reads a text of statements likewise; places are told from the first one of these on.
func wantStopIn(t *testing.T, s string, errno api.Errno, place int) {
	t.Helper()
	if place >= 0 {
		place += 7
	}
	wantStop(t, "void f(int x) { "+s, errno, place)
}

func wantBareParse(t *testing.T, l []api.Word) {
	t.Helper()
	want, errno, where := bareParse(l)
	u, got, line := unit.Parse(l)
	if !same(u, want) || got != errno || line != where {
		t.Errorf("%s: %s, %d, %d; want %s, %d, %d", show(l), show(u), got, line, show(want), errno, where)
	}
}

func wantWords(t *testing.T, u api.Unit, want string) {
	t.Helper()
	l, errno := unit.Words(u)
	if !slices.Equal(l, bareWords(want)) || errno != api.OK {
		t.Errorf("%s: %s, %d; want %.300q", show(u), show(l), errno, want)
	}
	wantParsed(t, l, u)
}

func wantTold(t *testing.T, u, want api.Unit) {
	t.Helper()
	told, errno, line := unit.Check(u)
	if !same(told, want) || errno != api.OK || line != 0 {
		t.Errorf("%s: %s, %d, %d; want %s", show(u), show(told), errno, line, show(want))
	}
}

// wantMay asks whether a text's unit may be.
func wantMay(t *testing.T, s string) {
	t.Helper()
	u, errno, _ := unit.Parse(words(t, s))
	if told, f, line := unit.Check(u); errno != api.OK || f != api.OK || line != 0 || len(told.L) != len(u.L) {
		t.Errorf("%.300q: %d, %d, %d", s, errno, f, line)
	}
}

// wantMayNot asks for what is wrong with a text's unit, and the place of the word on whose line that is.
func wantMayNot(t *testing.T, s string, want api.Errno, place int) {
	t.Helper()
	u, errno, _ := unit.Parse(words(t, s))
	if told, f, line := unit.Check(u); errno != api.OK || len(told.L) > 0 || f != want || line != 101+place {
		t.Errorf("%.300q: %d, %s, %d, %d; want %d, %d", s, errno, show(told), f, line, want, 101+place)
	}
}

// wantNoUnit asks of a unit that no words say.
func wantNoUnit(t *testing.T, u api.Unit) {
	t.Helper()
	if bareRight(u) {
		t.Errorf("%s is one", show(u))
	}
	told, errno, line := unit.Check(moved(u, 5))
	l, f := unit.Words(u)
	if len(told.L) > 0 || errno != api.ErrArg || line != 0 || len(l) > 0 || f != api.ErrArg {
		t.Errorf("%s: %s, %d, %d; %s, %d", show(u), show(told), errno, line, show(l), f)
	}
}

func wantUnit(t *testing.T, u api.Unit) {
	t.Helper()
	l, errno := unit.Words(u)
	if errno != api.OK {
		t.Errorf("%s: %d", show(u), errno)
	}
	wantParsed(t, l, u)
	if _, errno, _ := unit.Check(u); errno == api.ErrArg {
		t.Errorf("%s is checked, and is none", show(u))
	}
}

// The chapter's examples, and comp's of units.
func TestExamples(t *testing.T) {
	wantMay(t, "int f(int x) { return x + 1; }")
	wantMayNot(t, "int f(int x) { return y; }", api.ErrName, 8)
	wantMayNot(t, "int f(void) { f(1); return 0; }", api.ErrCalls, 6)
	wantMayNot(t, "void f(void) { int x = f(); }", api.ErrCalls, 6)
	wantMayNot(t, "int f(int x) { { int y = x; } y = 1; return 0; }", api.ErrName, 14)
	wantMayNot(t, "int f(int x) { x; }", api.ErrUnit, 7)
	wantStop(t, "int f(int x { }", api.ErrUnit, 5)
	wantStop(t, "int f(", api.ErrUnit, -1)
}

// P14.1: functions with and without `extern`, parameters and bodies.
func TestParseFunctions(t *testing.T) {
	a, b := param(api.KInt, "a"), param(api.KULong, "b")
	wantText(t, "", api.Unit{})
	wantText(t, "int f(int a);", unitOf(head(api.KInt, "f", a)))
	wantText(t, "extern int f(int a);", unitOf(head(api.KInt, "f", a)))
	wantText(t, "int f(int a) { }", unitOf(with(head(api.KInt, "f", a))))
	wantText(t, "void f();", unitOf(head(api.KVoid, "f")))
	wantText(t, "void f(void);", unitOf(head(api.KVoid, "f")))
	wantText(t, "extern void f();", unitOf(head(api.KVoid, "f")))
	wantText(t, "void f() { }", unitOf(with(head(api.KVoid, "f"))))
	wantText(t, "void f(void) { return; }", unitOf(with(head(api.KVoid, "f"), give())))
	wantText(t, "long unsigned f(int a, long int unsigned b);", unitOf(head(api.KULong, "f", a, b)))
	wantText(t, "int f(int a, int a, unsigned long b);", unitOf(head(api.KInt, "f", a, a, b)))
	wantText(t, "int f(); extern int f(); int f() { } int f(int a);",
		unitOf(head(api.KInt, "f"), head(api.KInt, "f"), with(head(api.KInt, "f")), head(api.KInt, "f", a)))
	wantText(t, "int f("+strings.Repeat("int a, ", 20)+"int a);", unitOf(head(api.KInt, "f", slices.Repeat([]api.Var{a}, 21)...)))
	for k := api.KChar; k <= api.KULong; k++ {
		for s := range strings.SplitSeq(kindTexts[k], "; ") {
			v := param(k, "x")
			wantText(t, s+" f("+s+" x) { "+s+" x; "+s+" x = x; }", unitOf(with(head(k, "f", v), decl(k, "x"), decl(k, "x", x))))
			wantText(t, s+" f("+s+" x, "+s+" x);", unitOf(head(k, "f", v, v)))
		}
	}
}

// kindTexts are all that words of kinds say.
var kindTexts = map[int]string{
	api.KChar: "char; signed char; char signed", api.KUChar: "unsigned char; char unsigned",
	api.KShort:  "short; short int; signed short; int short; signed short int; short signed int; int signed short",
	api.KUShort: "unsigned short; short unsigned int; int unsigned short",
	api.KInt:    "int; signed; signed int; int signed", api.KUInt: "unsigned; unsigned int; int unsigned",
	api.KLong:  "long; long long; long int; signed long; long signed long; long int long; int long signed long",
	api.KULong: "unsigned long; long unsigned; unsigned long long; long unsigned int long; int long unsigned",
}

// P14.1: words of kinds are read together; where they say none, nothing can go on with the word behind them.
func TestParseKinds(t *testing.T) {
	for _, s := range []string{"short char", "char int", "int int", "signed unsigned", "unsigned unsigned", "signed signed", "long long long", "short short", "char char", "long short", "long char int unsigned long"} {
		n := len(strings.Fields(s))
		wantStop(t, s+" f();", api.ErrUnit, n)
		wantStop(t, "extern "+s+" f();", api.ErrUnit, n+1)
		wantStop(t, s, api.ErrUnit, -1)
		wantStop(t, s+" void f();", api.ErrUnit, n)
		wantStop(t, "int f("+s+" x);", api.ErrUnit, n+3)
		wantStop(t, "int f(int a, "+s+" x);", api.ErrUnit, n+6)
		wantStop(t, "int f("+s, api.ErrUnit, -1)
		wantStopIn(t, s+" x; }", api.ErrUnit, n)
		wantStopIn(t, s, api.ErrUnit, -1)
		wantStopIn(t, s+" )", api.ErrUnit, n)
		wantStopIn(t, "if (x) "+s+" x;", api.ErrUnit, n+4)
		wantStopIn(t, "x = ("+s+") x;", api.ErrExpr, n+3)
	}
	wantStop(t, "int void f();", api.ErrUnit, 1)
	wantStop(t, "void int f();", api.ErrUnit, 1)
	wantStop(t, "void void f();", api.ErrUnit, 1)
	wantStop(t, "int f(int void x);", api.ErrUnit, 4)
	wantStop(t, "int f(void int x);", api.ErrUnit, 4)
	wantStop(t, "int f(void x);", api.ErrUnit, 4)
	wantStop(t, "int f(void, int x);", api.ErrUnit, 4)
	wantStop(t, "int f(int x, void);", api.ErrUnit, 6)
	wantStop(t, "int f(int x, void y);", api.ErrUnit, 6)
	wantStopIn(t, "int void x;", api.ErrUnit, 1)
	wantNone(t, words(t, strings.Repeat("int ", 4000)+"f();"), api.ErrUnit, 4101)
}

// P14.1: each word of a function's head with which nothing can go on, and what is not there.
func TestParseHeads(t *testing.T) {
	for s, place := range map[string]int{
		"f();": 0, ";": 0, "{ }": 0, "( )": 0, "1": 0, "else": 0, "struct": 0, "return;": 0, "int f(); ;": 5, "int f() { } ;": 6, "int f() { } }": 6, "int f() { } 5": 6,
		"extern;": 1, "extern f();": 1, "extern extern int f();": 1, "int extern f();": 1, "extern int f() { }": 5, "extern void f(void) { }": 6, "extern int f(int a) { return a; }": 7,
		"int 5();": 1, "int int();": 2, "int if();": 1, "int ();": 1, "int *f();": 1, "int f;": 2, "int f = 5;": 2, "int f, g;": 2, "int f { }": 2, "int f g": 2, "int f)": 2, "int f[5];": 2,
		"int f(;": 3, "int f(x);": 3, "int f(5);": 3, "int f(,);": 3, "int f(...);": 3, "int f(int);": 4, "int f(int 5);": 4, "int f(int x;": 5, "int f(int x y);": 5, "int f(int x,);": 6, "int f(int x int y);": 5, "int f(int x, y);": 6, "int f(int x = 1);": 5, "int f(int, int);": 4, "int f(int x, ...);": 6, "int f(int x[]);": 5, "int f(int *x);": 4, "int f(int if);": 4,
		"int f() 5": 4, "int f() x": 4, "int f() int g();": 4, "int f() }": 4, "int f() return;": 4, "int f() = 0;": 4, "int f())": 4, "void f(void void);": 4, "struct s f();": 0, "union f();": 0, `"t" f();`: 0,
	} {
		wantStop(t, s, api.ErrUnit, place)
		wantStop(t, "int e ( ) { x = 1 ; } "+s, api.ErrUnit, place+10)
	}
	whole := "extern unsigned int f ( long a , char b ) ; int f ( void ) { x = 1 ; }"
	l := words(t, whole)
	for n := range l {
		if n == 0 || n == 12 {
			continue // no function, and one
		}
		u, errno, line := unit.Parse(l[:n])
		if len(u.L) > 0 || errno != api.ErrUnit && l[n-1].S != "=" || errno != api.ErrExpr && l[n-1].S == "=" || line != 0 {
			t.Errorf("%d words: %s, %d, %d", n, show(u), errno, line)
		}
	}
}

// P14.1: each sort of statement, and where each one begins.
func TestParseStatements(t *testing.T) {
	wantBody(t, "")
	wantBody(t, ";", block())
	wantBody(t, "{ }", block())
	wantBody(t, "{ ; { } }", block(block(), block()))
	wantBody(t, ";;;", block(), block(), block())
	wantBody(t, "{ x = 1; f(x); }", block(set("x", number(1)), do(call("f", x))))
	wantBody(t, "int y; char z = x; unsigned long w = (char) x + 1;", decl(api.KInt, "y"), decl(api.KChar, "z", x), decl(api.KULong, "w", two(api.OAdd, cast(api.KChar, x), number(1))))
	wantBody(t, "x = y; y = 1;", set("x", y), set("y", number(1)))
	wantBody(t, "x == y; x; x + 1; x(y); x ? y : x; (x); -x; 5; (int) x; f();",
		do(two(api.OEq, x, y)), do(x), do(two(api.OAdd, x, number(1))), do(call("x", y)), do(api.Expr{Is: api.ECond, L: []api.Expr{x, y, x}}), do(x),
		do(api.Expr{Is: api.EOne, Op: api.ONeg, L: []api.Expr{x}}), do(number(5)), do(cast(api.KInt, x)), do(call("f")))
	wantBody(t, "x = x == y;", set("x", two(api.OEq, x, y)))
	wantBody(t, "if (x) ; if (x) { } else ;", when(x, block()), when(x, block(), block()))
	wantBody(t, "while (x) ; while (y) { break; continue; }", while(x, block()), while(y, block(leave, again)))
	wantBody(t, "return; return x; return (x); return -1;", give(), give(x), give(x), give(api.Expr{Is: api.EOne, Op: api.ONeg, L: []api.Expr{number(1)}}))
	wantBody(t, "break; continue;", leave, again)
	wantBody(t, "if (x) int y; else char z = 1; while (x) long w;", when(x, decl(api.KInt, "y"), decl(api.KChar, "z", number(1))), while(x, decl(api.KLong, "w")))
}

// P14.1: an `else` belongs to the last `if` that can have it.
func TestParseElse(t *testing.T) {
	one, other := set("x", number(1)), set("x", number(2))
	wantBody(t, "if (x) if (y) x = 1; else x = 2;", when(x, when(y, one, other)))
	wantBody(t, "if (x) if (y) x = 1; else x = 2; else ;", when(x, when(y, one, other), block()))
	wantBody(t, "if (x) { if (y) x = 1; } else x = 2;", when(x, block(when(y, one)), other))
	wantBody(t, "if (x) while (y) if (x) x = 1; else x = 2;", when(x, while(y, when(x, one, other))))
	wantBody(t, "if (x) while (y) if (x) x = 1; else x = 2; else ;", when(x, while(y, when(x, one, other)), block()))
	wantBody(t, "if (x) x = 1; else if (y) x = 2; else if (x) ; else return;", when(x, one, when(y, other, when(x, block(), give()))))
	wantBody(t, "if (x) if (y) x = 1; else if (x) ; else x = 2;", when(x, when(y, one, when(x, block(), other))))
	wantBody(t, "if (x) x = 1; if (y) x = 1; else x = 2;", when(x, one), when(y, one, other))
	wantStopIn(t, "if (x) x = 1; else x = 2; else ;", api.ErrExpr, 13)
	wantStopIn(t, "else ;", api.ErrExpr, 0)
	wantStopIn(t, "if (x) ; ; else ;", api.ErrExpr, 6)
	wantStopIn(t, "if (x) while (x) ; else ; else ;", api.ErrExpr, 11)
}

// sorts are one of each sort of statement, and their texts; those that have others within them have one of another list.
func sorts(inner api.Stmt, s string) map[string]api.Stmt {
	return map[string]api.Stmt{
		"{ " + s + " }":                 block(inner),
		"{ ; " + s + " ; }":             block(block(), inner, block()),
		"if (x) " + s + " else ;":       when(x, inner, block()),
		"if (x) ; else " + s:            when(x, block(), inner),
		"while (x) " + s:                while(x, inner),
		"if (x) { " + s + " } else { }": when(x, block(inner), block()),
		"while (x) { " + s + " ; }":     while(x, block(inner, block())),
	}
}

// P14.1, P14.3: each sort within each other one, and within those again.
func TestParseWithin(t *testing.T) {
	simple := map[string]api.Stmt{
		";": block(), "{ }": block(), "int y;": decl(api.KInt, "y"), "int y = x;": decl(api.KInt, "y", x), "x = 1;": set("x", number(1)), "f(x);": do(call("f", x)),
		"return;": give(), "return x;": give(x), "break;": leave, "continue;": again, "while (x) ;": while(x, block()), "if (x) ; else ;": when(x, block(), block()),
	}
	for s, inner := range simple {
		wantBody(t, s, inner)
		for s, middle := range sorts(inner, s) {
			wantBody(t, s, middle)
			for s, outer := range sorts(middle, s) {
				wantBody(t, s, outer)
				wantBody(t, s+" "+s, outer, outer)
			}
		}
	}
	for s, last := range map[string]api.Stmt{"if (x) f(x);": when(x, do(call("f", x))), "while (y) if (x) ;": while(y, when(x, block())), "if (x) ; else if (y) ;": when(x, block(), when(y, block()))} {
		wantBody(t, "while (x) "+s, while(x, last))
		wantBody(t, "if (x) ; else "+s, when(x, block(), last))
		wantBody(t, "if (x) { "+s+" } else ;", when(x, block(last), block()))
		wantBody(t, "if (y) "+s, when(y, last))
	}
}

// P14.1: the first word of a statement with which nothing can go on, and none behind the last one.
func TestParseStops(t *testing.T) {
	for s, place := range map[string]int{
		"": -1, ";": -1, "{": -1, "{ }": -1, "{ ; ": -1, "int": -1, "int x": -1, "x = 1": -1, "f()": -1, "x": -1, "if": -1, "if (x": -1, "if (x)": -1, "if (x) ;": -1, "if (x) ; else": -1, "while": -1, "while (x)": -1, "return x": -1, "break": -1, "continue": -1, "if (x) {": -1, "while (x) ;": -1,
		"int ;": 1, "int x y;": 2, "int 5;": 1, "int x, y;": 2, "int x(": 2, "int x = 1 }": 4, "int x = 1, y;": 4, "int if;": 1, "int * x;": 1, "int x == 1;": 2, "int }": 1, "int x }": 2,
		"x = 1 }": 3, "x = 1 = 2;": 3, "x = y = 2;": 3, "x = 1, 2;": 3, "x y;": 1, "x }": 1, "x = x int": 3, "x += 1;": 1, "x ++;": 1,
		"f() }": 3, "f()()": 3, "5 = x;": 1, "(x) = 1;": 3, "f(x) = 1;": 4, "x, y;": 1, "1 : 2;": 1, "x [ 1 ];": 1,
		"if x": 1, "if ;": 1, "if (x ;": 3, "if (x { }": 3, "if (x = 1) ;": 3, "if { }": 1, "while x": 1, "while ;": 1, "while (x ;": 3, "while (x, y)": 3, "while (x while": 3,
		"return x }": 2, "return x y": 2, "return x = 1;": 2, "break }": 1, "break x;": 1, "break break": 1, "break 1;": 1, "continue }": 1, "continue (": 1, "continue continue": 1,
	} {
		wantStopIn(t, s, api.ErrUnit, place)
		if place >= 0 {
			wantStopIn(t, "{ while (x) "+s, api.ErrUnit, place+5)
			wantStopIn(t, "if (x) ; else "+s, api.ErrUnit, place+6)
			wantStopIn(t, s+" ; } int f(", api.ErrUnit, place)
		}
	}
}

// P14.1: expr.Parse's errors, on its lines, where an expression is asked for; what begins no other statement is one.
func TestParseExpressions(t *testing.T) {
	nine := "f(1, 1, 1, 1, 1, 1, 1, 1, 1)"
	high := strings.Repeat("- ", 60) + "x"
	for ahead, n := range map[string]int{"int y = ": 3, "x = ": 2, "": 0, "if (": 2, "while (": 2, "return ": 1, "{ while (x) ": 5, "if (x) ; else return ": 7} {
		wantStopIn(t, ahead+")", api.ErrExpr, n)
		wantStopIn(t, ahead+"1 +", api.ErrExpr, -1)
		wantStopIn(t, ahead+"1 + ;", api.ErrExpr, n+2)
		wantStopIn(t, ahead+"f(1 1);", api.ErrExpr, n+3)
		wantStopIn(t, ahead+"(1;", api.ErrExpr, n+2)
		wantStopIn(t, ahead+"(short char) 1;", api.ErrExpr, n+3)
		wantStopIn(t, ahead+nine+";", api.ErrCalls, n)
		wantStopIn(t, ahead+high+";", api.ErrDeep, n)
		wantStopIn(t, ahead+"1 + "+high+";", api.ErrDeep, n+1)
		wantStopIn(t, ahead+nine+" } ) =", api.ErrCalls, n)
		wantStopIn(t, ahead+high+" } ) =", api.ErrDeep, n)
		wantStopIn(t, ahead+"else ;", api.ErrExpr, n)
		wantStopIn(t, ahead+"void x;", api.ErrExpr, n)
		wantStopIn(t, ahead+"extern int x;", api.ErrExpr, n)
		wantStopIn(t, ahead+"struct x;", api.ErrExpr, n)
		wantStopIn(t, ahead+`"t";`, api.ErrExpr, n)
	}
	for ahead, n := range map[string]int{"int y = ": 3, "x = ": 2, "if (": 2, "while (": 2, "return ": 1} {
		wantStopIn(t, ahead, api.ErrExpr, -1)
		wantStopIn(t, ahead+"}", api.ErrExpr, n)
		wantStopIn(t, ahead+"int x;", api.ErrExpr, n)
		wantStopIn(t, ahead+"= 1;", api.ErrExpr, n)
		if ahead != "return " {
			wantStopIn(t, ahead+";", api.ErrExpr, n)
		}
	}
	wantStopIn(t, "if (x) }", api.ErrExpr, 4)
	wantStopIn(t, "while (x) else", api.ErrExpr, 4)
	wantStopIn(t, "= 1;", api.ErrExpr, 0)
	wantStopIn(t, "x = 1; ) ", api.ErrExpr, 4)
}

// P14.1: words that are none stand nowhere; a sign in a text, or as a name, is none.
func TestParseNoWords(t *testing.T) {
	l := words(t, "extern int e ( int a ) ; void f ( void ) { int y = 1 ; y = 2 ; e ( y ) ; if ( y ) ; else ; while ( y ) break ; continue ; return y ; { } }")
	wantParsed(t, l, unitOf(head(api.KInt, "e", param(api.KInt, "a")), with(head(api.KVoid, "f"),
		decl(api.KInt, "y", number(1)), set("y", number(2)), do(call("e", y)), when(y, block(), block()), while(y, leave), again, give(y), block())))
	for i, w := range l {
		for _, wrong := range []api.Word{
			{}, {Kind: w.Kind, S: w.S, V: w.V + 1<<40, T: w.T}, {Kind: w.Kind, S: w.S, V: w.V, T: w.T + 20}, {Kind: w.Kind, S: w.S + " ", V: w.V, T: w.T}, {Kind: w.Kind + 5, S: w.S, V: w.V, T: w.T},
			{Kind: api.WText, S: w.S}, {Kind: api.WName, S: "if"}, {Kind: api.WKey, S: "x"}, {Kind: api.WPunct, S: "#"}, {Kind: api.WPunct, S: "x"}, {Kind: -1, S: w.S},
		} {
			wrong.Line = w.Line
			spoilt := slices.Clone(l)
			spoilt[i] = wrong
			u, errno, line := unit.Parse(spoilt)
			if len(u.L) > 0 || errno != api.ErrUnit && errno != api.ErrExpr || line != w.Line {
				t.Errorf("%s instead of %s: %s, %d, %d", show(wrong), show(w), show(u), errno, line)
			}
			wantBareParse(t, spoilt)
		}
	}
	for _, w := range l {
		if w.Kind == api.WKey || w.Kind == api.WPunct {
			spoilt := slices.Clone(l)
			for i := range spoilt {
				if spoilt[i].S == w.S {
					spoilt[i].Kind = api.WKey + api.WPunct - w.Kind
				}
			}
			wantBareParse(t, spoilt)
		}
	}
}

// P14.1: Lines are those of words: of a function its name's, of a statement its first word's; whatever they are, and Files make no difference.
func TestParseLines(t *testing.T) {
	l := words(t, "extern unsigned int e(int a); void f() { unsigned int y = 1; y = 2; e(y); if (y) ; else { } while (y) break; continue; return y; return; int z; - y; }")
	for i := range l {
		l[i].Line, l[i].File = -100+7*i, strconv.Itoa(i)
	}
	u, errno, _ := unit.Parse(l)
	if errno != api.OK || u.L[0].Line != l[3].Line || u.L[1].Line != l[10].Line {
		t.Fatalf("%s, %d", show(u), errno)
	}
	var lines []int
	for _, s := range u.L[1].Body {
		lines = append(lines, s.Line)
		if len(s.L) > 0 {
			lines = append(lines, s.L[0].Line)
		}
		if len(s.M) > 0 {
			lines = append(lines, s.M[0].Line)
		}
		if len(s.E) > 0 {
			lines = append(lines, s.E[0].Line)
		}
	}
	var want []int
	for _, place := range []int{14, 18, 20, 22, 24, 24, 29, 33, 35, 31, 37, 41, 39, 43, 45, 46, 48, 50, 53, 53} {
		want = append(want, l[place].Line)
	}
	if !slices.Equal(lines, want) {
		t.Errorf("%v; want %v", lines, want)
	}
	wantBareParse(t, l)
}

// towers put a statement round others; each is so much higher.
var towers = map[string]struct {
	ahead, behind string
	high          int
}{
	"block": {"{ ", " }", 1}, "wide": {"{ ; x = 1 ; ", " ; }", 1}, "while": {"while (x) ", "", 1}, "if": {"if (x) ", "", 1}, "else": {"if (x) ; else ", "", 1}, "both": {"if (x) ", " else ;", 1}, "body": {"while (x) { ", " }", 2},
}

// P14.1, P14.2: bodies 30 and 31 high; the error is told at the body's end, on the function's line.
func TestHigh(t *testing.T) {
	for name, tower := range towers {
		for high := 27; high < 34; high++ {
			n, inner := (high-1)/tower.high, "x = 2 ; "
			for range (high - 1) % tower.high {
				inner = "{ " + inner + "} "
			}
			s := "void f(int x) { " + strings.Repeat(tower.ahead, n) + inner + strings.Repeat(tower.behind, n) + " }"
			if high <= 30 {
				wantMay(t, s)
				wantMay(t, s+" void g(int x) { f(x); }")
			} else {
				wantStop(t, s, api.ErrDeep, 1)
				wantStop(t, "void e(); "+s+" ; else", api.ErrDeep, 6)
				wantStop(t, s[:len(s)-1], api.ErrUnit, -1)
				wantStop(t, s[:len(s)-1]+") }", api.ErrExpr, len(words(t, s))-1)
			}
			u, errno, _ := bareRead(words(t, s))
			if errno == api.OK != (high <= 30) {
				t.Fatalf("%s, %d high: %d", name, high, errno)
			}
			if high <= 30 {
				wantUnit(t, u)
			}
		}
	}
	for high := 27; high < 34; high++ {
		for _, round := range []func(api.Stmt) api.Stmt{
			func(s api.Stmt) api.Stmt { return block(s) },
			func(s api.Stmt) api.Stmt { return block(block(), s, block()) },
			func(s api.Stmt) api.Stmt { return while(x, s) },
			func(s api.Stmt) api.Stmt { return when(x, s) },
			func(s api.Stmt) api.Stmt { return when(x, s, block()) },
			func(s api.Stmt) api.Stmt { return when(x, block(), s) },
		} {
			s := set("x", number(1))
			for range high - 1 {
				s = round(s)
			}
			for _, u := range []api.Unit{body(s), body(leave, s), body(s, give()), unitOf(head(api.KInt, "e"), body(s).L[0])} {
				if high <= 30 && bareRight(u) {
					wantUnit(t, u)
				} else if high > 30 {
					wantNoUnit(t, u)
				}
			}
		}
	}
	wantUnit(t, body())
}

// P14.1, P14.2: 40 and 41 functions.
func TestManyFunctions(t *testing.T) {
	for _, one := range []string{"int f ( ) ; ", "void f ( void ) ; ", "extern int f ( int x ) ; "} {
		n := len(strings.Fields(one))
		name := slices.Index(strings.Fields(one), "f")
		u, errno, _ := unit.Parse(words(t, strings.Repeat(one, 40)))
		if errno != api.OK || len(u.L) != 40 {
			t.Fatalf("%d functions, %d", len(u.L), errno)
		}
		wantUnit(t, u)
		wantMay(t, strings.Repeat(one, 40))
		wantStop(t, strings.Repeat(one, 41), api.ErrUnit, 40*n+name)
		wantStop(t, strings.Repeat(one, 42), api.ErrUnit, 40*n+name)
		wantStop(t, strings.Repeat(one, 40)+";", api.ErrUnit, 40*n)
		wantStop(t, strings.Repeat(one, 40)+"int f ( ", api.ErrUnit, -1)
		wantStop(t, strings.Repeat(one, 40)+"int f ( ) { x = ; }", api.ErrExpr, 40*n+7)
		wantStop(t, strings.Repeat(one, 40)+"int f ( ) { x ; } )", api.ErrUnit, 40*n+1)
		wantStop(t, strings.Repeat(one, 40)+"int f ( ) { "+strings.Repeat("{", 31)+strings.Repeat("}", 31)+" }", api.ErrDeep, 40*n+1)
		u.L = append(u.L, head(api.KInt, "f"))
		wantNoUnit(t, u)
	}
}

// P14.1: 5000 and 5001 words, right and wrong ones.
func TestManyWords(t *testing.T) {
	ahead, end := words(t, "void f ( ) {"), words(t, "}")
	for _, one := range []string{"; ", "x = 1 ; x = 1 ; x = 1 ; x = 1 ; x = 1 ; ", "{ } ", "( ", "} "} {
		l := slices.Concat(ahead, words(t, strings.Repeat(one, 5100/len(strings.Fields(one))))[:4994], end)
		wantBareParse(t, l)
		wantBareParse(t, l[:4999])
		if len(l) != 5000 {
			t.Fatal(len(l))
		}
		wantNone(t, append(slices.Clone(l), api.Word{Line: 9}), api.ErrArg, 0)
		wantNone(t, slices.Concat(l, end), api.ErrArg, 0)
	}
	u, errno, _ := unit.Parse(slices.Concat(ahead, words(t, strings.Repeat("; ", 4994)), end))
	if errno != api.OK || len(u.L) != 1 || len(u.L[0].Body) != 4994 {
		t.Errorf("%s, %d", show(u), errno)
	}
	wantNone(t, make([]api.Word, 5000), api.ErrUnit, 0)
	wantNone(t, make([]api.Word, 5001), api.ErrArg, 0)
	wantNone(t, make([]api.Word, 1<<20), api.ErrArg, 0)
}

// P14.1: alike in all but Lines; right or not, nil and empty.
func TestSame(t *testing.T) {
	base := unitOf(head(api.KInt, "e", param(api.KInt, "a")), with(head(api.KVoid, "f"), decl(api.KInt, "y", x), when(x, set("y", x), give()), while(y, block(leave, do(call("e", x))))))
	l := []api.Unit{{}, base, unitOf(base.L[0]), unitOf(base.L[1]), unitOf(base.L[1], base.L[0]), unitOf(base.L[0], base.L[0]), unitOf(api.Func{}), unitOf(api.Func{}, api.Func{})}
	for _, change := range []func(f *api.Func){
		func(f *api.Func) { f.Sig.Name = "g" }, func(f *api.Func) { f.Sig.Ret = 77 }, func(f *api.Func) { f.Sig.Args = append(f.Sig.Args, api.Var{}) },
		func(f *api.Func) { f.Sig.Args = append(f.Sig.Args, param(api.KInt, "")) }, func(f *api.Func) { f.Sig.Args = append(f.Sig.Args, param(0, "b")) },
		func(f *api.Func) { f.Has = !f.Has }, func(f *api.Func) { f.Body = append(f.Body, api.Stmt{}) }, func(f *api.Func) { f.Body = f.Body[:len(f.Body)/2] },
		func(f *api.Func) { *f = api.Func{Sig: api.Sig{Name: "q"}} },
	} {
		for i := range base.L {
			u := copied(base)
			change(&u.L[i])
			if !bareSame(u, base) {
				l = append(l, u)
			}
		}
	}
	for _, change := range []func(s *api.Stmt){
		func(s *api.Stmt) { s.Is += 20 }, func(s *api.Stmt) { s.Name += "z" }, func(s *api.Stmt) { s.K += 20 }, func(s *api.Stmt) { s.E = append(s.E, api.Expr{}) },
		func(s *api.Stmt) { s.L = append(s.L, api.Stmt{}) }, func(s *api.Stmt) { s.M = append(s.M, api.Stmt{}) },
		func(s *api.Stmt) { s.M = append(s.M, block()) }, func(s *api.Stmt) { s.E = append(s.E, number(6)) }, func(s *api.Stmt) { s.E = append(s.E, number(7)) },
	} {
		for _, place := range []func(u api.Unit) *api.Stmt{
			func(u api.Unit) *api.Stmt { return &u.L[1].Body[0] }, func(u api.Unit) *api.Stmt { return &u.L[1].Body[1].M[0] }, func(u api.Unit) *api.Stmt { return &u.L[1].Body[2].L[0].L[1] },
		} {
			u := copied(base)
			change(place(u))
			l = append(l, u)
		}
	}
	for i, u := range l {
		for j, v := range l {
			alike := bareSame(u, v)
			if alike != (i == j) {
				t.Fatalf("%d and %d are alike: %v", i, j, alike)
			}
			for _, line := range []int{1, -1} {
				if v := moved(v, line); unit.Same(u, v) != alike || unit.Same(v, u) != alike {
					t.Errorf("%s and %s: %v", show(u), show(v), !alike)
				}
			}
		}
	}
	empty := copied(base)
	empty.L[0].Body, empty.L[1].Sig.Args, empty.L[1].Body[0].L, empty.L[1].Body[0].M, empty.L[1].Body[1].M[0].E = []api.Stmt{}, []api.Var{}, []api.Stmt{}, []api.Stmt{}, []api.Expr{}
	if !unit.Same(base, empty) || !unit.Same(empty, base) || !unit.Same(api.Unit{}, api.Unit{L: []api.Func{}}) {
		t.Error("nil and empty are not the same")
	}
	wantUnit(t, empty)
}

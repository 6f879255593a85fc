package unit_test

import (
	"math"
	"slices"
	"strconv"
	"strings"
	"testing"

	"burin/api"
	"burin/kind"
	"burin/unit"
)

// rightOnes are one of each sort of statement, with all that it may have, and with as little.
func rightOnes() []api.Stmt {
	return []api.Stmt{
		decl(api.KInt, "y", x), decl(api.KInt, "y"), set("x", number(1)), do(call("f", x)), when(x, block(), block()), when(x, block()), while(x, block()),
		give(x), give(), leave, again, block(leave, again, leave), block(),
	}
}

// P14.2, P14.3: of each sort of statement each part that is to be empty, or there; Is that is none.
func TestNoStatement(t *testing.T) {
	for _, s := range rightOnes() {
		wantUnit(t, body(s))
		for _, is := range []int{0, -1, 10, 77, math.MaxInt, math.MinInt} {
			wrong := s
			wrong.Is = is
			wantNoUnit(t, body(wrong))
		}
		for _, k := range []int{api.KVoid, api.KChar, api.KInt, api.KULong, -1, 9, 1<<32 + 5, math.MinInt} {
			wrong := s
			wrong.K = k
			wantEither(t, wrong, s.Is == api.XDecl && k >= api.KChar && k <= api.KULong || s.Is != api.XDecl && k == 0)
		}
		for _, name := range []string{"", "x", "y", " ", "if", "void", "5", "x y", "é", "=", "x\n"} {
			wrong := s
			wrong.Name = name
			named := s.Is == api.XDecl || s.Is == api.XSet
			wantEither(t, wrong, named && (name == "x" || name == "y") || !named && name == "")
		}
		for n := range 4 {
			wrong := s
			wrong.E = slices.Repeat([]api.Expr{x}, n)
			may := map[int][]int{api.XDecl: {0, 1}, api.XReturn: {0, 1}, api.XBreak: {0}, api.XContinue: {0}, api.XBlock: {0}}[s.Is]
			wantEither(t, wrong, slices.Contains(may, n) || may == nil && n == 1)
			wrong = s
			wrong.L = slices.Repeat([]api.Stmt{leave}, n)
			wantEither(t, wrong, s.Is == api.XBlock || n == map[int]int{api.XIf: 1, api.XWhile: 1}[s.Is])
			wrong = s
			wrong.M = slices.Repeat([]api.Stmt{leave}, n)
			wantEither(t, wrong, n == 0 || n == 1 && s.Is == api.XIf)
		}
		for _, e := range []api.Expr{{}, as(api.KInt, x), variable("if"), number(-129), call("f", slices.Repeat([]api.Expr{x}, 9)...), {Is: api.ETwo, Op: api.OAdd, L: []api.Expr{x, {}}}, high(61)} {
			wrong := s
			wrong.E = []api.Expr{e}
			wantEither(t, wrong, false)
		}
		if len(s.E) > 0 {
			s.E = []api.Expr{high(60)}
			wantEither(t, s, true)
		}
	}
}

// high is an expression so high.
func high(n int) api.Expr {
	e := x
	for range n - 1 {
		e = api.Expr{Is: api.EOne, Op: api.ONot, L: []api.Expr{e}}
	}
	return e
}

// wantEither asks of a statement, alone and within others.
func wantEither(t *testing.T, s api.Stmt, right bool) {
	t.Helper()
	want := wantNoUnit
	if right {
		want = wantUnit
	}
	for _, l := range [][]api.Stmt{
		{s}, {block(), s}, {s, block()}, {block(s)}, {block(leave, s, leave)}, {while(x, s)}, {while(x, block(s))}, {when(x, s)}, {when(x, block(), s)}, {when(x, block(block(s)), block())},
	} {
		want(t, body(l...))
		want(t, unitOf(head(api.KInt, "e"), body(l...).L[0], with(head(api.KInt, "g"))))
	}
}

// P14.2, P14.3: names, kinds and bodies of functions.
func TestNoFunction(t *testing.T) {
	either := func(f api.Func, right bool) {
		t.Helper()
		for _, u := range []api.Unit{unitOf(f), unitOf(head(api.KVoid, "e"), f), unitOf(f, with(head(api.KInt, "g")))} {
			if right {
				wantUnit(t, u)
			} else {
				wantNoUnit(t, u)
			}
		}
	}
	for _, name := range []string{"f", "_", "x9", "Int", "extern_", strings.Repeat("n", 5000)} {
		either(head(api.KInt, name), true)
		either(with(head(api.KInt, "f", param(api.KInt, name))), true)
	}
	for _, name := range append(strings.Fields(bareKeyWords), "", " ", "9", "a b", "f ", "é", "f(", "'f'", "f\x00") {
		either(head(api.KInt, name), false)
		either(with(head(api.KInt, name)), false)
		either(head(api.KInt, "f", param(api.KInt, name)), false)
		either(head(api.KInt, "f", param(api.KInt, "x"), param(api.KInt, name), param(api.KInt, "y")), false)
	}
	for _, k := range []int{0, 1, 2, 3, 4, 5, 6, 7, 8, 9, -1, 77, 1<<32 + 5, math.MaxInt, math.MinInt} {
		either(head(k, "f"), k >= 0 && k <= 8)
		either(with(head(k, "f")), k >= 0 && k <= 8)
		either(head(api.KInt, "f", param(k, "x")), k >= 1 && k <= 8)
		either(head(api.KInt, "f", param(api.KInt, "y"), param(k, "x")), k >= 1 && k <= 8)
	}
	either(api.Func{}, false)
	for _, s := range rightOnes() {
		f := head(api.KVoid, "f", param(api.KInt, "x"))
		f.Body = []api.Stmt{s}
		either(f, false)
	}
	empty := head(api.KVoid, "f")
	empty.Body = []api.Stmt{}
	either(empty, true)
	wantUnit(t, api.Unit{})
}

// P14.2, P14.3: an XIf with M whose L[0] ends in an XIf without M is none that words say.
func TestNoElse(t *testing.T) {
	open, closed := when(x, leave), when(x, leave, again)
	ends := map[bool][]api.Stmt{
		true:  {open, while(x, open), when(x, leave, open), while(x, when(x, block(), open)), while(x, while(x, open)), when(x, closed, open), when(x, open), when(x, leave, while(x, open)), when(x, block(open), when(x, closed))},
		false: {closed, while(x, closed), block(open), block(leave, open), while(x, block(open)), when(x, closed, closed), when(x, block(open), closed), when(x, leave, block(open)), leave, give(x), while(x, leave)},
	}
	for isOpen, l := range ends {
		for _, s := range l {
			wantEither(t, s, true)
			wantEither(t, when(x, s), true)
			wantEither(t, when(x, s, leave), !isOpen)
			wantEither(t, when(x, s, open), !isOpen)
			wantEither(t, when(x, s, when(x, leave, leave)), !isOpen)
			wantEither(t, when(x, block(s), leave), true)
			wantEither(t, when(x, leave, s), true)
			wantEither(t, while(x, when(x, while(x, s), leave)), !isOpen)
			wantEither(t, when(x, when(x, block(), s), leave), !isOpen)
			wantEither(t, when(x, when(x, s, block()), leave), !isOpen)
		}
	}
}

// P14.2 (1): 8 parameters, and 9.
func TestParameters(t *testing.T) {
	for n := range 14 {
		var l []string
		for i := range n {
			l = append(l, "int p"+strconv.Itoa(i))
		}
		for _, end := range []string{";", "{ }", "{ return; }"} {
			s := "void f(" + strings.Join(l, ", ") + ") " + end
			if n <= 8 {
				wantMay(t, s)
			} else {
				wantMayNot(t, s, api.ErrCalls, 1)
				wantMayNot(t, "int e(); "+s, api.ErrCalls, 6)
			}
		}
	}
}

// P14.2 (2): a function that is told again: with its kinds, and with one body.
func TestToldAgain(t *testing.T) {
	for _, s := range []string{
		"int f(int a); int f(int b);", "int f(int a); int f(int b) { return b; }", "int f(int a) { return a; } int f(int b);", "int f(); int f(void) { return 1; } int f();", "int f(); int f(); int f();",
		"int f(int a, char b); int g(); signed f(int x, signed char y) { return x; }", "void f(); long g(); void f() { }", "int f(); int F(); long f_();", "void f() { } void g() { }",
	} {
		wantMay(t, s)
	}
	for s, place := range map[string]int{
		"int f(); long f();": 6, "int f(); unsigned f() { }": 6, "void f(); int f();": 6, "int f(); void f() { }": 6,
		"int f(int a); int f();": 8, "int f(); int f(int a);": 6, "int f(int a); int f(int a, int b);": 8, "int f(int a); int f(long a);": 8, "int f(int a, int b); int f(int a, char b);": 11, "int f(int a, char b); int f(char a, int b);": 11,
		"int f(); int g(); int f(); char f();": 16, "int f() { return 1; } long f() { return 1; }": 10, "int f(); int f() { return 1; } long f() { return 1; }": 15,
	} {
		wantMayNot(t, s, api.ErrCalls, place)
	}
	for s, place := range map[string]int{
		"void f() { } void f() { }": 7, "void f(); void f() { } void f() { }": 12, "void f() { } void f(); void f() { }": 12, "void f() { } void g() { } void f() { }": 13, "int f(int a) { return a; } int f(int b) { return b; }": 12,
	} {
		wantMayNot(t, s, api.ErrName, place)
	}
}

// P14.2 (3): two variables of one name, in whichever lists they stand.
func TestOneName(t *testing.T) {
	for s, place := range map[string]int{
		"int f(int x, int x);": 1, "int f(int x, char y, long x) { }": 1, "int e(); int f(int x, int x);": 6, "int f(int a, int b, int c, int d, int e, int f, int g, int a);": 1,
		"void f(int x) { int x; }": 7, "void f(int x) { unsigned int x = 1; }": 7, "void f(int x) { ; { { long x; } } }": 10, "void f() { int x; int x; }": 8, "void f() { int x; { int x; } }": 9, "void f() { { int x; } int x; }": 10, "void f() { { int x; } { char x; } }": 11,
		"void f(int y) { if (y) int x; else int x; }": 15, "void f(int y) { while (y) int x; int x; }": 14, "void f(int y) { while (y) { int x; while (x) { int x; } } }": 20, "void f() { int x = 1; int x = x; }": 10,
	} {
		wantMayNot(t, s, api.ErrName, place)
	}
	for _, s := range []string{
		"void f(int x) { int y; } void g(int x) { int y; }", "void f(int f) { f = f; }", "void f(int x) { int f = x; f = 1; }", "int f(int f) { return f(f) + f; }", "int g(); void f(int g) { g = g(); g(); }", "void f(int x) { int X; int xx; }",
		"void f(int x); void g() { int x; }", "void f(int x); void f(int y) { int x; }",
	} {
		wantMay(t, s)
	}
}

// P14.2 (4): a variable is there from behind its XDecl on to the end of that list, and in lists within it.
func TestThere(t *testing.T) {
	for _, s := range []string{
		"int y = x; y = x;", "int y; { y = x; { y = y; } }", "{ int y; y = 1; }", "int y; while (y) { y = y - 1; if (y) y = 1; else y = 2; }", "int y; if (y) ; else { int z = y; z = y; }", "{ { { x = 1; } } }",
		"{ int y; } { int z; z = x; } x = 1;", "int y; { int z; { int w = y + z; } z = y; } y = x;", "while (x) int y = x;", "if (x) int y; else int z;", "int y; int z = y; int w = z + y;", "{ int y; { } { ; } y = 1; }", "{ int y; { int z; } { int w; } y = 1; }",
	} {
		wantMay(t, "void f(int x) { "+s+" }")
		wantMay(t, "void f(int x) { while (x) { "+s+" } }")
	}
	for s, place := range map[string]int{
		"y = 1;": 0, "x = y;": 2, "y = 1; int y;": 0, "int y = y;": 3, "int y = x + y;": 5, "int z = y; int y;": 3, "{ int y; } y = 1;": 5, "{ int y; } x = y;": 7, "{ { int y; } y = 1; }": 6, "{ int y; } { y = 1; }": 6, "{ { int y; } } { { y = 1; } }": 9,
		"if (x) int y; else y = 1;": 8, "if (x) { int y; } else { y = 1; }": 11, "if (x) int y; y = 1;": 7, "if (x) ; else int y; y = 1;": 9, "while (x) int y; y = 1;": 7, "while (x) { int y; } x = y;": 11, "while (y) int y;": 2, "if (y) int y;": 2, "{ int y = 1; { int z; } } z = 1;": 12,
		"{ int y; } int z = y;": 8, "if (x) { { int y; } y = 1; }": 10, "f = 1;": 0, "x = f;": 2, "{ ; { int y; } { ; y = 1; } }": 9, "if (x) if (x) int y; else ; else y = 1;": 14, "{ while (x) { int y; } { y = 1; } }": 11,
	} {
		wantMayNot(t, "void f(int x) { "+s+" }", api.ErrName, place+7)
		wantMayNot(t, "void f(int x) { while (x) { "+s+" } }", api.ErrName, place+12)
		wantMayNot(t, "void e(int y) { int z = y; } void f(int x) { "+s+" }", api.ErrName, place+20)
	}
}

// P14.2 (4): functions are known from their heads on.
func TestKnown(t *testing.T) {
	for _, s := range []string{
		"int f(int n) { return n < 1 ? 0 : f(n - 1); }", "int g(int a); int f() { return g(1); }", "int g(int a) { return a; } int f() { return g(1); }", "int g(int a); int f() { return g(1); } int g(int b) { return f(); }", "void f() { f(); }",
		"int f(); int g(); int f() { return g(); }",
	} {
		wantMay(t, s)
	}
	wantMayNot(t, "int f() { return g(1); } int g(int a);", api.ErrName, 6)
	wantMayNot(t, "int f() { return g(1); } int g(int a) { return a; }", api.ErrName, 6)
	wantMayNot(t, "void f() { g(); }", api.ErrName, 5)
	wantMayNot(t, "void f(int x) { x(); }", api.ErrName, 7)
	wantMayNot(t, "void f() { f(1); }", api.ErrCalls, 5)
	wantMayNot(t, "int g(int a); void f() { g(); }", api.ErrCalls, 12)
	wantMayNot(t, "int g(int a); void f() { g(1, 2); }", api.ErrCalls, 12)
	wantMayNot(t, "int g(int a); void f() { 1 + g(1, 2); }", api.ErrCalls, 14)
	wantMayNot(t, "int g(int a); void f() { if (g(y)) ; }", api.ErrName, 16)
}

// P14.2 (4): what is of KVoid stands alone, as a call.
func TestVoid(t *testing.T) {
	ahead := "void v(int a); int g(int a); "
	wantMay(t, ahead+"void f(int x) { v(x); (v(x)); v(g(x)); f(x); g(x); }")
	for s, place := range map[string]int{"int y = v(x);": 0, "x = v(x);": 0, "if (v(x)) ;": 0, "while (v(x)) ;": 0, "return v(x);": 0, "; { if (x) { x = v(x); } }": 7} {
		wantMayNot(t, ahead+"void f(int x) { "+s+" }", api.ErrCalls, place+21)
		wantMayNot(t, ahead+"int f(int x) { "+s+" }", api.ErrCalls, place+21)
	}
	for s, place := range map[string]int{"int y = 1 + v(x);": 5, "x = g(v(x));": 4, "if (! v(x)) ;": 3, "return (int) v(x);": 4, "v(v(x));": 2, "- v(x);": 1, "1 ? v(x) : v(x);": 2, "v(x) + 1;": 0} {
		wantMayNot(t, ahead+"int f(int x) { "+s+" }", api.ErrCalls, place+21)
	}
	for s, place := range map[string]int{"x;": 0, "1;": 0, "x + 1;": 0, "g(x) + 1;": 0, "(int) g(x);": 0, "! g(x);": 0, "x == g(x);": 0, "x ? g(x) : g(x);": 0, "g(x) && g(x);": 0, "; { { x; } }": 3, "if (x) x;": 4} {
		wantMayNot(t, ahead+"int f(int x) { "+s+" }", api.ErrUnit, place+21)
	}
}

// P14.2 (4): `break` and `continue` within an XWhile, and out of it.
func TestLoops(t *testing.T) {
	for _, key := range []string{"break;", "continue;"} {
		for _, s := range []string{"while (x) %", "while (x) { % }", "while (x) { ; { % } }", "while (x) if (x) %", "while (x) if (x) ; else %", "if (x) while (x) %", "while (x) { while (x) ; % }", "while (x) while (x) %", "while (x) { int y; % % }", "{ { while (x) { { if (x) { % } } } } }"} {
			wantMay(t, "void f(int x) { "+strings.ReplaceAll(s, "%", key)+" }")
		}
		for s, place := range map[string]int{"%": 0, "{ % }": 1, "if (x) %": 4, "if (x) ; else %": 6, "while (x) ; %": 5, "while (x) { } { % }": 7, "while (x) { % } %": 8, "{ while (x) ; } %": 7, "while (x) while (x) % %": 10, "if (x) { while (x) % } else %": 13} {
			wantMayNot(t, "void f(int x) { "+strings.ReplaceAll(s, "%", key)+" }", api.ErrUnit, place+7)
			wantMayNot(t, "void e() { while (1) ; } void f(int x) { "+strings.ReplaceAll(s, "%", key)+" }", api.ErrUnit, place+18)
		}
	}
}

// P14.2 (4): `return` has an expression just if Ret is not KVoid.
func TestReturns(t *testing.T) {
	for k := api.KVoid; k <= api.KULong; k++ {
		n := len(strings.Fields(kind.Name(k)))
		for s, with := range map[string]bool{"return;": false, "return x;": true, "; return;": false, "while (x) { return x + 1; }": true, "if (x) ; else return;": false, "return 0;": true, "return f(x);": true} {
			whole := kind.Name(k) + " f(int x) { " + s + " }"
			if with == (k != api.KVoid) {
				wantMay(t, whole)
			} else {
				wantMayNot(t, whole, api.ErrCalls, n+6+slices.Index(strings.Fields(strings.NewReplacer("(", " ( ", ")", " ) ", ";", " ; ").Replace(s)), "return"))
			}
		}
		wantMay(t, kind.Name(k)+" f(int x) { }")
		wantMay(t, kind.Name(k)+" f(int x) { while (x) ; }")
	}
}

// P14.2: expressions have their kinds; those of XDecl, XSet, XReturn are cast, on their line, where these are others.
func TestTold(t *testing.T) {
	for k := api.KChar; k <= api.KULong; k++ {
		for own := api.KChar; own <= api.KULong; own++ {
			v := api.Expr{Is: api.EVar, Name: "v", Line: 7}
			told := as(own, v)
			asked := told
			if own != k {
				asked = api.Expr{Is: api.ECast, K: k, L: []api.Expr{told}, Line: 7}
			}
			f := func(e, made api.Expr) api.Func {
				s := []api.Stmt{decl(k, "y", made), set("p", made), when(e, block(set("y", made)), give(made)), while(e, again), do(call("g", made)), decl(k, "z"), set("z", made), set("v", e)}
				return with(head(k, "f", param(own, "v"), param(k, "p")), s...)
			}
			g := head(api.KVoid, "g", param(k, "a"))
			wantTold(t, unitOf(g, f(v, v)), unitOf(g, f(told, asked)))
		}
	}
	one := number(1)
	wide := as(api.KLong, cast(api.KLong, one))
	wantTold(t, unitOf(with(head(api.KLong, "f"), give(one))), unitOf(with(head(api.KLong, "f"), give(wide))))
	wantTold(t, unitOf(with(head(api.KLong, "f"), give(cast(api.KLong, one)))), unitOf(with(head(api.KLong, "f"), give(wide))))
	back := as(api.KInt, cast(api.KInt, wide))
	wantTold(t, unitOf(with(head(api.KInt, "f"), give(cast(api.KLong, one)))), unitOf(with(head(api.KInt, "f"), give(back))))
	wantTold(t, body(do(call("f", wide))), body(do(call("f", back))))
	wantTold(t, unitOf(head(api.KInt, "e"), with(head(api.KVoid, "f"), do(call("e")))), unitOf(head(api.KInt, "e"), with(head(api.KVoid, "f"), do(as(api.KInt, call("e"))))))
	wantTold(t, api.Unit{}, api.Unit{})
	wantTold(t, body(), body())
	wantTold(t, body(block(), give(), while(one, leave)), body(block(), give(), while(one, leave)))
	wantTold(t, moved(body(decl(api.KChar, "y", x)), -3), moved(body(decl(api.KChar, "y", as(api.KChar, cast(api.KChar, as(api.KInt, x))))), -3))
	tall := high(60)
	u, errno, _ := unit.Check(body(decl(api.KChar, "y", tall)))
	if e := u.L[0].Body[0].E[0]; errno != api.OK || e.Is != api.ECast || e.K != api.KChar || e.L[0].K != api.KInt {
		t.Errorf("%s, %d", show(u), errno)
	}
}

// P14.2: of several errors the first one in order: what is no unit, function by function, heads ahead of bodies, statement by statement.
func TestFirst(t *testing.T) {
	nine := "int a, int b, int c, int d, int e, int g, int h, int i, int a"
	wantMayNot(t, "int f(); long f("+nine+") { y; }", api.ErrCalls, 6)
	wantMayNot(t, "int f(int a, int a) { y; } long f("+nine+");", api.ErrName, 1)
	wantMayNot(t, "void f(int a) { y = 1; } void f(int a, int a) { }", api.ErrName, 7)
	wantMayNot(t, "void f() { } int f(int a, int a) { y = 1; }", api.ErrCalls, 7)
	wantMayNot(t, "void f(int a, int b) { } void f(int a, int a) { y = 1; }", api.ErrName, 12)
	wantMayNot(t, "void f(int a, int a) { y = 1; int y; int y; }", api.ErrName, 1)
	wantMayNot(t, "void f() { x; int y; int y; }", api.ErrName, 5)
	wantMayNot(t, "void f() { int y; int y = z; }", api.ErrName, 8)
	wantMayNot(t, "void f() { int y; { int y = y(); } }", api.ErrName, 9)
	wantMayNot(t, "void f() { int y; int z = w; int y; }", api.ErrName, 11)
	wantMayNot(t, "void f() { if (y) break; }", api.ErrName, 7)
	wantMayNot(t, "void f() { if (1) break; else y = 1; }", api.ErrUnit, 9)
	wantMayNot(t, "void f() { while (1) { continue; } continue; y = 1; }", api.ErrUnit, 13)
	wantMayNot(t, "void f() { y = f(); }", api.ErrCalls, 5)
	wantMayNot(t, "void f() { y = z; }", api.ErrName, 7)
	wantMayNot(t, "void f() { y = f(1); }", api.ErrCalls, 7)
	wantMayNot(t, "void f() { y = 1; z; }", api.ErrName, 5)
	wantMayNot(t, "void f() { z + 1; }", api.ErrName, 5)
	wantMayNot(t, "void f() { f() + 1; }", api.ErrCalls, 5)
	wantMayNot(t, "void f() { f(1); }", api.ErrCalls, 5)
	wantMayNot(t, "void f() { return z; }", api.ErrName, 6)
	wantMayNot(t, "void f() { return 1 + f(); }", api.ErrCalls, 8)
	wantMayNot(t, "void f() { return f(); }", api.ErrCalls, 5)
	wantMayNot(t, "int f() { return; } int g() { return x; }", api.ErrCalls, 5)
	wantMayNot(t, "int f() { x = 1; } long f();", api.ErrName, 5)
	line := func(line int, s api.Stmt) api.Stmt {
		s.Line = line
		return s
	}
	for _, u := range []api.Unit{
		unitOf(body(line(5, set("q", x))).L[0], api.Func{}), body(line(5, set("q", x)), line(6, set("q", as(api.KInt, x)))), body(line(5, leave), line(6, api.Stmt{})), body(when(x, when(x, line(4, leave)), leave)),
		unitOf(head(api.KInt, "f", slices.Repeat([]api.Var{param(api.KInt, "a")}, 9)...), head(api.KInt, "")),
	} {
		wantNoUnit(t, u)
	}
}

// P14.3, P14.4: a unit's words, of Line 0, are parsed as the same.
func TestWords(t *testing.T) {
	for s, want := range map[string]string{
		"":                            "",
		"int f();":                    "int f ( void ) ;",
		"extern long int f ( int a);": "long f ( int a ) ;",
		"void f() { }":                "void f ( void ) { }",
		"unsigned f(char long_, int unsigned long b) { ; }":              "unsigned int f ( char long_ , unsigned long b ) { { } }",
		"int f(void); short f(short a, short b) { return a; } void g();": "int f ( void ) ; short f ( short a , short b ) { return a ; } void g ( void ) ;",
		"void f() { return; int x; unsigned char y = 1 + 2 * 3; }":       "void f ( void ) { return ; int x ; unsigned char y = ( 1 + ( 2 * 3 ) ) ; }",
		"void f() { x = - 1; f(1, 2); x; { ; { } x = 1u; } }":            "void f ( void ) { x = - 1 ; f ( 1 , 2 ) ; x ; { { } { } x = 1u ; } }",
		"void f() { if (x > 1) ; if (x) y = 1; else if (z) break; }":     "void f ( void ) { if ( ! ( x <= 1 ) ) { } if ( x ) y = 1 ; else if ( z ) break ; }",
		"void f() { if (a) if (b) ; else ; else { continue; } }":         "void f ( void ) { if ( a ) if ( b ) { } else { } else { continue ; } }",
		"void f() { while ((x)) while (f()) { return 'a'; } }":           "void f ( void ) { while ( x ) while ( f ( ) ) { return 97 ; } }",
		"void f() { if (x) int y; else long z = (char) y; }":             "void f ( void ) { if ( x ) int y ; else long z = ( char ) y ; }",
		`void f() { return '\377'; }`:                                    `void f ( void ) { return '\377' ; }`,
	} {
		u, errno, _ := unit.Parse(words(t, s))
		if errno != api.OK {
			t.Errorf("%q: %d", s, errno)
		}
		wantWords(t, u, want)
		wantWords(t, moved(u, 7), want)
	}
	for k := api.KVoid; k <= api.KULong; k++ {
		s := kind.Name(k)
		wantWords(t, unitOf(head(k, "f")), s+" f ( void ) ;")
		if k != api.KVoid {
			wantWords(t, unitOf(with(head(k, "f", param(k, "a"), param(k, "b")), decl(k, "c"), decl(k, "d", cast(k, x)))), s+" f ( "+s+" a , "+s+" b ) { "+s+" c ; "+s+" d = ( "+s+" ) x ; }")
		}
	}
	told, _, _ := unit.Check(body(set("x", x)))
	if l, errno := unit.Words(told); len(l) > 0 || errno != api.ErrArg {
		t.Errorf("of what has kinds: %s, %d", show(l), errno)
	}
}

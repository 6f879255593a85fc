package expr_test

import (
	"fmt"
	"math"
	"slices"
	"strconv"
	"strings"
	"testing"

	"burin/api"
	"burin/arith"
	"burin/expr"
	"burin/kind"
	"burin/lex"
	"burin/text"
	"burin/token"
)

func integer(v int64, k int) api.Expr { return api.Expr{Is: api.EInt, V: v, K: k} }
func number(v int64) api.Expr         { return integer(v, api.KInt) }
func variable(name string) api.Expr   { return api.Expr{Is: api.EVar, Name: name} }
func one(op int, a api.Expr) api.Expr { return api.Expr{Is: api.EOne, Op: op, L: []api.Expr{a}} }
func two(op int, a, b api.Expr) api.Expr {
	return api.Expr{Is: api.ETwo, Op: op, L: []api.Expr{a, b}}
}
func and(a, b api.Expr) api.Expr            { return api.Expr{Is: api.EAnd, L: []api.Expr{a, b}} }
func or(a, b api.Expr) api.Expr             { return api.Expr{Is: api.EOr, L: []api.Expr{a, b}} }
func cast(k int, a api.Expr) api.Expr       { return api.Expr{Is: api.ECast, K: k, L: []api.Expr{a}} }
func choice(a, b, c api.Expr) api.Expr      { return api.Expr{Is: api.ECond, L: []api.Expr{a, b, c}} }
func call(n string, l ...api.Expr) api.Expr { return api.Expr{Is: api.ECall, Name: n, L: l} }

// at is an expression on a line.
func at(line int, e api.Expr) api.Expr {
	e.Line = line
	return e
}

// as is an expression that has a kind.
func as(k int, e api.Expr) api.Expr {
	e.K = k
	return e
}

var a, b, c, x, y = variable("a"), variable("b"), variable("c"), variable("x"), variable("y")

// show keeps a failure of something great readable.
func show(e any) string { return fmt.Sprintf("%.600s", fmt.Sprintf("%+v", e)) }

// same tells whether expressions are alike, Lines too.
func same(a, b api.Expr) bool {
	return a.Line == b.Line && expr.Same(a, b) && slices.EqualFunc(a.L, b.L, same)
}

// words are a text's words: each one on a line of its own, its place and 101.
func words(t testing.TB, s string) []api.Word {
	t.Helper()
	l := lexed(t, s)
	for i := range l {
		l[i].Line = 101 + i
	}
	return l
}

// lexed are a text's words on the text's lines.
func lexed(t testing.TB, s string) []api.Word {
	t.Helper()
	lines, e := text.Lines(s)
	toks, f, _ := token.Lex(lines)
	l, g, _, _ := lex.Words(toks)
	if e != api.OK || f != api.OK || g != api.OK {
		t.Fatalf("%.200q: %d, %d, %d", s, e, f, g)
	}
	return l
}

func wantParsed(t *testing.T, l []api.Word, from int, want api.Expr, place int) {
	t.Helper()
	e, n, errno, line := expr.Parse(l, from)
	if !expr.Same(e, want) || n != place || errno != api.OK || line != 0 {
		t.Errorf("%s from %d: %s, %d, %d, %d; want %s, %d", show(l), from, show(e), n, errno, line, show(want), place)
	}
}

// wantAll reads a text that is an expression to its end.
func wantAll(t *testing.T, s string, want api.Expr) {
	t.Helper()
	l := words(t, s)
	wantParsed(t, l, 0, want, len(l))
}

func wantNone(t *testing.T, l []api.Word, from int, want api.Errno, where int) {
	t.Helper()
	e, n, errno, line := expr.Parse(l, from)
	if !same(e, api.Expr{}) || n != 0 || errno != want || line != where {
		t.Errorf("%s from %d: %s, %d, %d, %d; want %d, %d", show(l), from, show(e), n, errno, line, want, where)
	}
}

// wantStop reads a text with whose word at a place nothing can go on; below 0: that is behind the last one.
func wantStop(t *testing.T, s string, place int) {
	t.Helper()
	line := 0
	if place >= 0 {
		line = 101 + place
	}
	wantNone(t, words(t, s), 0, api.ErrExpr, line)
}

// wantBareParse holds Parse against the second reading, and what it tells against Right.
func wantBareParse(t *testing.T, l []api.Word, from int) {
	t.Helper()
	want, place, errno, line := bareParse(l, from)
	e, n, got, where := expr.Parse(l, from)
	if !same(e, want) || n != place || got != errno || where != line {
		t.Errorf("%s from %d: %s, %d, %d, %d; want %s, %d, %d, %d", show(l), from, show(e), n, got, where, show(want), place, errno, line)
	}
	if got == api.OK && !expr.Right(e) {
		t.Errorf("%s from %d: %s is parsed, and not right", show(l), from, show(e))
	}
}

// wantWords holds an expression's words against a text's, and what they are parsed as against it.
func wantWords(t *testing.T, e api.Expr, want string) {
	t.Helper()
	l, errno := expr.Words(e)
	if !slices.Equal(l, bareWords(want)) || errno != api.OK {
		t.Errorf("%s: %s, %d; want %.300q", show(e), show(l), errno, want)
	}
	wantParsed(t, l, 0, e, len(l))
}

func wantTyped(t *testing.T, e api.Expr, vars []api.Var, sigs []api.Sig, want api.Expr) {
	t.Helper()
	told, errno, line := expr.Typed(e, vars, sigs)
	if !same(told, want) || errno != api.OK || line != 0 {
		t.Errorf("%s: %s, %d, %d; want %s", show(e), show(told), errno, line, show(want))
	}
}

func wantUntyped(t *testing.T, e api.Expr, vars []api.Var, sigs []api.Sig, want api.Errno, where int) {
	t.Helper()
	told, errno, line := expr.Typed(e, vars, sigs)
	if !same(told, api.Expr{}) || errno != want || line != where {
		t.Errorf("%s: %s, %d, %d; want %d, %d", show(e), show(told), errno, line, want, where)
	}
}

// wantKind asks for a text's kind.
func wantKind(t *testing.T, s string, vars []api.Var, sigs []api.Sig, want int) {
	t.Helper()
	e, _, errno, _ := expr.Parse(words(t, s), 0)
	told, f, line := expr.Typed(e, vars, sigs)
	if errno != api.OK || f != api.OK || line != 0 || told.K != want {
		t.Errorf("%q: %d, %d, %d; want %d", s, told.K, errno, f, want)
	}
}

// rightOnes are one of each sort.
func rightOnes() []api.Expr {
	return []api.Expr{
		number(5), a, one(api.ONot, a), two(api.OAdd, a, b), and(a, b), or(a, b), cast(api.KChar, a), call("f"), call("f", a), choice(a, b, c),
	}
}

// tower is an expression so high, each part within the next one.
func tower(high int, round func(e api.Expr) api.Expr) api.Expr {
	e := x
	for range high - 1 {
		e = round(e)
	}
	return e
}

// rounds put each sort round a part.
var rounds = []func(e api.Expr) api.Expr{
	func(e api.Expr) api.Expr { return one(api.OFlip, e) },
	func(e api.Expr) api.Expr { return two(api.OMul, e, a) },
	func(e api.Expr) api.Expr { return two(api.OShl, a, e) },
	func(e api.Expr) api.Expr { return and(a, e) },
	func(e api.Expr) api.Expr { return or(e, a) },
	func(e api.Expr) api.Expr { return cast(api.KULong, e) },
	func(e api.Expr) api.Expr { return call("f", a, b, e) },
	func(e api.Expr) api.Expr { return choice(e, a, b) },
	func(e api.Expr) api.Expr { return choice(a, e, b) },
	func(e api.Expr) api.Expr { return choice(a, b, e) },
}

// wantRight asks of an expression, and of all that have it as a part.
func wantRight(t *testing.T, e api.Expr, want bool) {
	t.Helper()
	if expr.Right(e) != want {
		t.Errorf("%s: %v", show(e), !want)
	}
	for _, round := range rounds {
		if expr.Right(round(e)) != want {
			t.Errorf("%s: %v", show(round(e)), !want)
		}
	}
	if l, errno := expr.Words(e); !want && (len(l) > 0 || errno != api.ErrArg) {
		t.Errorf("%s: %s, %d", show(e), show(l), errno)
	}
	if !want {
		wantUntyped(t, e, nil, nil, api.ErrArg, 0)
	}
}

// P13.1: each sort of expression, on whatever line, and what makes it another one.
func TestRight(t *testing.T) {
	for _, e := range rightOnes() {
		for _, line := range []int{0, 1, -1, math.MaxInt, math.MinInt} {
			wantRight(t, at(line, e), true)
		}
		e.L = slices.Clone(e.L)
		if len(e.L) == 0 {
			e.L = []api.Expr{}
		}
		wantRight(t, e, true)
	}
	for _, is := range []int{0, -1, 10, 11, math.MaxInt, math.MinInt} {
		for _, e := range rightOnes() {
			e.Is = is
			wantRight(t, e, false)
		}
	}
	wantRight(t, api.Expr{}, false)
}

// P13.1: what is not named is 0, or empty.
func TestRightNotNamed(t *testing.T) {
	for _, e := range rightOnes() {
		if e.Is != api.EOne && e.Is != api.ETwo {
			for _, op := range []int{api.OAdd, api.ONot, -1, 99} {
				wrong := e
				wrong.Op = op
				wantRight(t, wrong, false)
			}
		}
		if e.Is != api.EInt && e.Is != api.ECast {
			for _, k := range []int{api.KChar, api.KInt, api.KULong, -1, 9} {
				wantRight(t, as(k, e), false)
			}
		}
		if e.Is != api.EInt {
			for _, v := range []int64{1, -1, math.MinInt64} {
				wrong := e
				wrong.V = v
				wantRight(t, wrong, false)
			}
		}
		if e.Is != api.EVar && e.Is != api.ECall {
			for _, name := range []string{"a", " ", "if"} {
				wrong := e
				wrong.Name = name
				wantRight(t, wrong, false)
			}
		}
	}
}

// P13.1: so many parts, which are right; calls of at most 8.
func TestRightParts(t *testing.T) {
	for _, e := range rightOnes() {
		has := len(e.L)
		for n := range 12 {
			e.L = slices.Repeat([]api.Expr{a}, n)
			wantRight(t, e, n == has || e.Is == api.ECall && n <= 8)
		}
		for i := range has {
			e.L = slices.Repeat([]api.Expr{a}, has)
			e.L[i] = api.Expr{}
			wantRight(t, e, false)
		}
	}
	for i := range 8 {
		l := slices.Repeat([]api.Expr{a}, 8)
		l[i] = integer(-1, api.KLong)
		wantRight(t, call("f", l...), false)
	}
}

// P13.1: numbers at the ends of their kinds; of KInt from -128 on.
func TestRightNumbers(t *testing.T) {
	for _, test := range []struct {
		k           int
		least, most int64
	}{
		{api.KInt, -128, math.MaxInt32}, {api.KUInt, 0, math.MaxUint32}, {api.KLong, 0, math.MaxInt64}, {api.KULong, math.MinInt64, math.MaxInt64},
	} {
		for _, v := range []int64{math.MinInt64, math.MinInt32, -129, -128, -1, 0, 1, 255, math.MaxInt32, math.MaxInt32 + 1, math.MaxUint32, math.MaxUint32 + 1, math.MaxInt64} {
			wantRight(t, integer(v, test.k), v >= test.least && v <= test.most)
		}
	}
	for _, k := range []int{api.KVoid, api.KChar, api.KUChar, api.KShort, api.KUShort, 9, -1, math.MaxInt, math.MinInt} {
		wantRight(t, integer(0, k), false)
		wantRight(t, integer(1, k), false)
	}
}

// P13.1: names are those of words: no key word, no other one.
func TestRightNames(t *testing.T) {
	for _, name := range []string{"a", "_", "__x9", "Z", "iff", "defined", "Int", strings.Repeat("x", 5000)} {
		wantRight(t, variable(name), true)
		wantRight(t, call(name), true)
	}
	wrong := append(strings.Fields(bareKeyWords), "", " ", "1", "1a", "a b", " a", "a ", "a-b", "é", "a\n", "a\x00", "$", "'a'", `"a"`, "(", "a\xff")
	for _, name := range wrong {
		wantRight(t, variable(name), false)
		wantRight(t, call(name), false)
		wantRight(t, call(name, a), false)
	}
}

// P13.1: operators of one and of two; kinds of casts.
func TestRightOperators(t *testing.T) {
	for op := -2; op < 25; op++ {
		wantRight(t, one(op, a), op >= api.ONeg && op <= api.ONot)
		wantRight(t, two(op, a, b), op >= api.OAdd && op <= api.ONeq)
	}
	for k := -2; k < 14; k++ {
		wantRight(t, cast(k, a), k >= api.KChar && k <= api.KULong)
	}
	for _, n := range []int{math.MaxInt, math.MinInt, 1 << 32, 1<<32 + 1} {
		wantRight(t, one(n, a), false)
		wantRight(t, two(n, a, b), false)
		wantRight(t, cast(n, a), false)
	}
}

// P13.1: 60 high, and 61.
func TestRightHigh(t *testing.T) {
	for _, round := range rounds {
		for high := 58; high < 64; high++ {
			if e := tower(high, round); expr.Right(e) != (high <= 60) {
				t.Errorf("%d high: %v", high, high > 60)
			}
		}
	}
	flip := rounds[0]
	wide := two(api.OAdd, tower(59, flip), tower(59, flip))
	if !expr.Right(wide) || expr.Right(two(api.OAdd, tower(60, flip), a)) || expr.Right(two(api.OAdd, a, tower(60, flip))) {
		t.Error("59 and 60 high within another one")
	}
}

// P13.1: alike in all but Lines; right or not, nil and empty.
func TestSame(t *testing.T) {
	var l []api.Expr
	for _, e := range append(rightOnes(), api.Expr{}, api.Expr{Is: 77, L: []api.Expr{a, {}}}) {
		l = append(l, e)
		for i := range 5 {
			other := e
			switch i {
			case 0:
				other.Op += 20
			case 1:
				other.K += 20
			case 2:
				other.V += 20
			case 3:
				other.Name += "z"
			case 4:
				other.L = append(slices.Clone(e.L), api.Expr{})
			}
			l = append(l, other)
		}
	}
	for _, round := range rounds {
		l = append(l, round(number(6)), round(round(number(6))))
	}
	for i, e := range l {
		for j, f := range l {
			f = copied(f)
			if expr.Same(e, f) != (i == j) {
				t.Errorf("%s and %s: %v", show(e), show(f), i != j)
			}
			for _, line := range []int{1, -1} {
				f = moved(f, line)
				if expr.Same(e, f) != (i == j) || expr.Same(f, e) != (i == j) {
					t.Errorf("%s and %s, on line %d: %v", show(e), show(f), line, i != j)
				}
			}
		}
	}
	empty := a
	empty.L = []api.Expr{}
	if !expr.Same(a, empty) || !expr.Same(empty, a) {
		t.Error("nil and empty are not the same")
	}
}

// moved is an expression of which each part is on a line.
func moved(e api.Expr, line int) api.Expr {
	e = copied(e)
	for i := range e.L {
		e.L[i] = moved(e.L[i], line)
	}
	return at(line, e)
}

// copied is an expression that shares no memory.
func copied(e api.Expr) api.Expr {
	e.L = slices.Clone(e.L)
	for i := range e.L {
		e.L[i] = copied(e.L[i])
	}
	return e
}

// P13.2: the chapter's examples.
func TestExamples(t *testing.T) {
	wantAll(t, "1 + 2 * x", two(api.OAdd, number(1), two(api.OMul, number(2), x)))
	wantAll(t, "a > b", one(api.ONot, two(api.OLeq, a, b)))
	wantAll(t, "(unsigned char) f(1, y) ? 2 : 3", choice(cast(api.KUChar, call("f", number(1), y)), number(2), number(3)))
	wantStop(t, "1 +", -1)
	wantStop(t, "(1", -1)
	wantParsed(t, words(t, "x y"), 0, x, 1)
}

// P13.2: numbers, characters, names, calls, brackets.
func TestParseAlone(t *testing.T) {
	wantAll(t, "5", number(5))
	wantAll(t, "5u", integer(5, api.KUInt))
	wantAll(t, "2147483648", integer(2147483648, api.KLong))
	wantAll(t, "18446744073709551615u", integer(-1, api.KULong))
	wantAll(t, `'\377'`, number(-1))
	wantAll(t, "'a'", number(97))
	wantAll(t, "x", x)
	wantAll(t, "f()", call("f"))
	wantAll(t, "f(1)", call("f", number(1)))
	wantAll(t, "f(1, x, a ? b : c)", call("f", number(1), x, choice(a, b, c)))
	wantAll(t, "f(g(), g(h(1), f(f())))", call("f", call("g"), call("g", call("h", number(1)), call("f", call("f")))))
	wantAll(t, "(x)", x)
	wantAll(t, "((((x))))", x)
	wantAll(t, "(f)", variable("f"))
	wantAll(t, "f((x), (1))", call("f", x, number(1)))
	wantParsed(t, words(t, "(f)(x)"), 0, variable("f"), 3)
	wantParsed(t, words(t, "f(x)(y)"), 0, call("f", x), 4)
	wantParsed(t, words(t, "1(2)"), 0, number(1), 1)
}

// P13.2: signs and casts ahead of one; `+` is gone.
func TestParseOne(t *testing.T) {
	wantAll(t, "-x", one(api.ONeg, x))
	wantAll(t, "~x", one(api.OFlip, x))
	wantAll(t, "!x", one(api.ONot, x))
	wantAll(t, "+x", x)
	wantAll(t, "+ + + x", x)
	wantAll(t, "+-x", one(api.ONeg, x))
	wantAll(t, "-+x", one(api.ONeg, x))
	wantAll(t, "- - ~ ! + - 5", one(api.ONeg, one(api.ONeg, one(api.OFlip, one(api.ONot, one(api.ONeg, number(5)))))))
	wantAll(t, "-f(x)", one(api.ONeg, call("f", x)))
	wantAll(t, "-(a + b)", one(api.ONeg, two(api.OAdd, a, b)))
	wantAll(t, "-a + b", two(api.OAdd, one(api.ONeg, a), b))
	wantAll(t, "a - -b", two(api.OSub, a, one(api.ONeg, b)))
	wantAll(t, "a - + b", two(api.OSub, a, b))
	wantAll(t, "(int) -x", cast(api.KInt, one(api.ONeg, x)))
	wantAll(t, "- (int) x", one(api.ONeg, cast(api.KInt, x)))
	wantAll(t, "(int) a + b", two(api.OAdd, cast(api.KInt, a), b))
	wantAll(t, "(int) (a + b)", cast(api.KInt, two(api.OAdd, a, b)))
	wantAll(t, "(char) (short) + (x)", cast(api.KChar, cast(api.KShort, x)))
	wantAll(t, "(long) f(x) * 2", two(api.OMul, cast(api.KLong, call("f", x)), number(2)))
	wantAll(t, "((int) x)", cast(api.KInt, x))
}

// kindTexts are all that words of kinds say.
var kindTexts = map[int]string{
	api.KChar: "char; signed char; char signed", api.KUChar: "unsigned char; char unsigned",
	api.KShort:  "short; short int; signed short; int short; signed short int; short signed int; int signed short",
	api.KUShort: "unsigned short; short unsigned int; int unsigned short",
	api.KInt:    "int; signed; signed int; int signed", api.KUInt: "unsigned; unsigned int; int unsigned",
	api.KLong:  "long; long long; long int; signed long; long signed long; long int long; int long signed long",
	api.KULong: "unsigned long; long unsigned; unsigned long long; long unsigned int long; int long unsigned",
}

// P13.2: casts of all kinds' words, and words that say none; the word behind them is the one with which nothing can go on.
func TestParseCasts(t *testing.T) {
	for k, s := range kindTexts {
		for kindText := range strings.SplitSeq(s, "; ") {
			wantAll(t, "("+kindText+") x", cast(k, x))
			wantAll(t, "1 + ("+kindText+") - x", two(api.OAdd, number(1), cast(k, one(api.ONeg, x))))
			n := len(strings.Fields(kindText))
			wantStop(t, "("+kindText+" x)", n+1)
			wantStop(t, "("+kindText+" )", -1)
			wantStop(t, "("+kindText, -1)
			wantStop(t, "("+kindText+" void) x", n+1)
			wantStop(t, "("+kindText+") )", n+2)
		}
	}
	for _, s := range []string{"short char", "char int", "int int", "signed unsigned", "unsigned unsigned", "signed signed", "long long long", "short short", "char char", "long short", "int char", "long char int unsigned long"} {
		n := len(strings.Fields(s))
		wantStop(t, "("+s+") x", n+1)
		wantStop(t, "x + ("+s+" y", n+3)
		wantStop(t, "("+s, -1)
		wantStop(t, "("+s+" + 1", n+1)
	}
	wantStop(t, "(void) x", 1)
	wantStop(t, "(int void) x", 2)
	wantStop(t, "(struct) x", 1)
	wantStop(t, "int x", 0)
	wantStop(t, "(x int)", 2)
	wantStop(t, "f(int) x", 2)
	wantStop(t, "f(int x)", 2)
	wantStop(t, "(int)", -1)
	wantStop(t, "(int) ()", 4)
	wantStop(t, "((int)) x", 4)
	wantAll(t, "f((int) x)", call("f", cast(api.KInt, x)))
	wantNone(t, words(t, "( "+strings.Repeat("int ", 4000)+") x"), 0, api.ErrExpr, 4102)
}

// P13.2: brackets that are a cast, and such that are none.
func TestParseBrackets(t *testing.T) {
	wantAll(t, "(x) + y", two(api.OAdd, x, y))
	wantAll(t, "(int) + y", cast(api.KInt, y))
	wantAll(t, "(x) - y", two(api.OSub, x, y))
	wantAll(t, "(int) - y", cast(api.KInt, one(api.ONeg, y)))
	wantAll(t, "(x) & y", two(api.OAnd, x, y))
	wantParsed(t, words(t, "(x) y"), 0, x, 3)
	wantParsed(t, words(t, "(x) (int) y"), 0, x, 3)
	wantParsed(t, words(t, "(x) ~y"), 0, x, 3)
	wantStop(t, "(int) & y", 3)
	wantStop(t, "(int) * y", 3)
	wantAll(t, "a * (b + c) * x", two(api.OMul, two(api.OMul, a, two(api.OAdd, b, c)), x))
	wantAll(t, "(a ? b : c) ? x : y", choice(choice(a, b, c), x, y))
}

// P13.2: each sign between two against each other one: the one that binds more, or else the left one, has its parts first.
func TestParseSigns(t *testing.T) {
	signs := strings.Fields(strings.Join(bareLevels, " "))
	for _, s := range signs {
		wantAll(t, "a "+s+" b", bareBoth(sign(s), a, b))
		wantAll(t, "-a "+s+" -b", bareBoth(sign(s), one(api.ONeg, a), one(api.ONeg, b)))
		wantAll(t, "a "+s+" b ? x : y", choice(bareBoth(sign(s), a, b), x, y))
		wantAll(t, "a ? x : b "+s+" c", choice(a, x, bareBoth(sign(s), b, c)))
		wantAll(t, "a ? b "+s+" c : x", choice(a, bareBoth(sign(s), b, c), x))
		for _, r := range signs {
			left, right := bareBoth(sign(r), bareBoth(sign(s), a, b), c), bareBoth(sign(s), a, bareBoth(sign(r), b, c))
			want := left
			if bareLevel(r) < bareLevel(s) {
				want = right
			}
			wantAll(t, "a "+s+" b "+r+" c", want)
			wantAll(t, "(a "+s+" b) "+r+" c", left)
			wantAll(t, "a "+s+" (b "+r+" c)", right)
		}
	}
	wantAll(t, "a || b && c | x ^ y & 1 == 2 < 3 << 4 + 5 * 6",
		or(a, and(b, two(api.OOr, c, two(api.OXor, x, two(api.OAnd, y, two(api.OEq, number(1), two(api.OLess, number(2), two(api.OShl, number(3), two(api.OAdd, number(4), two(api.OMul, number(5), number(6))))))))))))
	wantAll(t, "6 * 5 + 4 << 3 < 2 == 1 & y ^ x | c && b || a",
		or(and(two(api.OOr, two(api.OXor, two(api.OAnd, two(api.OEq, two(api.OLess, two(api.OShl, two(api.OAdd, two(api.OMul, number(6), number(5)), number(4)), number(3)), number(2)), number(1)), y), x), c), b), a))
}

func sign(s string) api.Word { return api.Word{Kind: api.WPunct, S: s} }

// P13.2: `a > b` is `!` of `a <= b`, `a >= b` of `a < b`, from left to right.
func TestParseTurned(t *testing.T) {
	wantAll(t, "a >= b", one(api.ONot, two(api.OLess, a, b)))
	wantAll(t, "a > b > c", one(api.ONot, two(api.OLeq, one(api.ONot, two(api.OLeq, a, b)), c)))
	wantAll(t, "a >= b < c", two(api.OLess, one(api.ONot, two(api.OLess, a, b)), c))
	wantAll(t, "a < b > c", one(api.ONot, two(api.OLeq, two(api.OLess, a, b), c)))
	wantAll(t, "!a > b", one(api.ONot, two(api.OLeq, one(api.ONot, a), b)))
	wantAll(t, "!(a <= b)", one(api.ONot, two(api.OLeq, a, b)))
	wantAll(t, "a > b == c", two(api.OEq, one(api.ONot, two(api.OLeq, a, b)), c))
	wantAll(t, "a > b + c", one(api.ONot, two(api.OLeq, a, two(api.OAdd, b, c))))
}

// P13.2: `? :` from right to left.
func TestParseChoice(t *testing.T) {
	one, two, three, four, five := number(1), number(2), number(3), number(4), number(5)
	wantAll(t, "1 ? 2 : 3 ? 4 : 5", choice(one, two, choice(three, four, five)))
	wantAll(t, "1 ? 2 ? 3 : 4 : 5", choice(one, choice(two, three, four), five))
	wantAll(t, "(1 ? 2 : 3) ? 4 : 5", choice(choice(one, two, three), four, five))
	wantAll(t, "1 ? 2 ? 3 : 4 : 5 ? a : b", choice(one, choice(two, three, four), choice(five, a, b)))
	wantAll(t, "1 ? (2) : f(3 ? 4 : 5)", choice(one, two, call("f", choice(three, four, five))))
	wantStop(t, "1 ? 2", -1)
	wantStop(t, "1 ?", -1)
	wantStop(t, "1 ? 2 :", -1)
	wantStop(t, "1 ? : 3", 2)
	wantStop(t, "1 ? 2 )", 3)
	wantStop(t, "(1 ? 2)", 4)
	wantStop(t, "f(1 ? 2, 3)", 5)
	wantStop(t, "1 ? 2 x", 3)
	wantStop(t, "? 1 : 2", 0)
	wantParsed(t, words(t, "1 : 2"), 0, one, 1)
	wantParsed(t, words(t, "1 ? 2 : 3 : 4"), 0, choice(one, two, three), 5)
}

// P13.2: an expression's Line is that of the word by which it is told.
func TestParseLines(t *testing.T) {
	for s, want := range map[string]api.Expr{
		"x":                             at(1, x),
		"\n5":                           at(2, number(5)),
		"a\n+\nb":                       at(2, two(api.OAdd, at(1, a), at(3, b))),
		"a\n&&\nb":                      at(2, and(at(1, a), at(3, b))),
		"a\n||\nb":                      at(2, or(at(1, a), at(3, b))),
		"a\n>\nb":                       at(2, one(api.ONot, at(2, two(api.OLeq, at(1, a), at(3, b))))),
		"a\n>=\nb":                      at(2, one(api.ONot, at(2, two(api.OLess, at(1, a), at(3, b))))),
		"+\nx":                          at(2, x),
		"+\n+\n-\nx":                    at(3, one(api.ONeg, at(4, x))),
		"!\nx":                          at(1, one(api.ONot, at(2, x))),
		"(\nx\n)":                       at(2, x),
		"(\na\n*\nb\n)":                 at(3, two(api.OMul, at(2, a), at(4, b))),
		"(\nunsigned\nchar\n)\nx":       at(1, cast(api.KUChar, at(5, x))),
		"f\n(\n)":                       at(1, call("f")),
		"f\n(\nx\n,\ny\n)":              at(1, call("f", at(3, x), at(5, y))),
		"a\n?\nb\n:\nc":                 at(2, choice(at(1, a), at(3, b), at(5, c))),
		"a\n-\nb\n-\nc":                 at(4, two(api.OSub, at(2, two(api.OSub, at(1, a), at(3, b))), at(5, c))),
		"a\n?\nb\n:\nc\n?\nx\n:\ny":     at(2, choice(at(1, a), at(3, b), at(6, choice(at(5, c), at(7, x), at(9, y))))),
		"a\n>\nb\n>=\nc":                at(4, one(api.ONot, at(4, two(api.OLess, at(2, one(api.ONot, at(2, two(api.OLeq, at(1, a), at(3, b))))), at(5, c))))),
		"(\nlong\n)\n(\nint\n)\n-\nx\n": at(1, cast(api.KLong, at(4, cast(api.KInt, at(7, one(api.ONeg, at(8, x))))))),
	} {
		l := lexed(t, s)
		e, n, errno, line := expr.Parse(l, 0)
		if !same(e, want) || n != len(l) || errno != api.OK || line != 0 {
			t.Errorf("%q: %s, %d, %d, %d; want %s", s, show(e), n, errno, line, show(want))
		}
	}
	for _, line := range []int{-5, 0, math.MaxInt, math.MinInt} {
		e, _, _, _ := expr.Parse([]api.Word{{Kind: api.WName, S: "x", File: "f", Line: line}}, 0)
		if !same(e, at(line, x)) {
			t.Errorf("line %d: %s", line, show(e))
		}
		wantNone(t, []api.Word{{Kind: api.WPunct, S: "*", Line: line}}, 0, api.ErrExpr, line)
	}
}

// P13.2: the longest expression, and the place behind it.
func TestParseLongest(t *testing.T) {
	for s, want := range map[string]int{
		"x": 1, "x y": 1, "x 5": 1, "x;": 1, "x = 5": 1, "x)": 1, "x, y": 1, "x : y": 1, "x ++": 1, "x += 1": 1, "x ! y": 1, "x ~ y": 1, "x [ 1 ]": 1, "x . y": 1, "x -> y": 1, "x { }": 1,
		`x "a"`: 1, "x int": 1, "x if": 1, "5 (x)": 1, "a + b c": 3, "f(x) y": 4, "(a) b": 3, "(int) x y": 4, "a ? b : c d": 5, "a = b": 1, "a <<= b": 1, "a == b = c": 3, "a...": 1, "- a --": 2,
		"x - - y z": 4, "(a + b) * c, d": 7, "f() g()": 3,
	} {
		l := words(t, s)
		_, n, errno, line := expr.Parse(l, 0)
		if n != want || errno != api.OK || line != 0 {
			t.Errorf("%q: %d, %d, %d; want %d", s, n, errno, line, want)
		}
		wantBareParse(t, l, 0)
	}
}

// P13.2: the first word with which nothing can go on; behind the last one 0.
func TestParseStops(t *testing.T) {
	for s, want := range map[string]int{
		"": -1, "+": -1, "-": -1, "x +": -1, "x * ": -1, "(": -1, "(x": -1, "((x)": -1, "f(": -1, "f(x": -1, "f(x,": -1, "f(x, y": -1, "x ||": -1, "(int": -1, "- - -": -1, "x + (y": -1, "f(g(x)": -1,
		")": 0, "*": 0, "* 2": 0, ",": 0, ";": 0, "=": 0, ":": 0, "if": 0, "int": 0, "void": 0, `"a"`: 0, "{": 0, "++x": 0, "--x": 0, "& x": 0, "return x": 0, "extern": 0, "...": 0, "[": 0,
		"()": 1, "(;": 1, "x + * y": 2, "x + ;": 2, "x + )": 2, "(x;": 2, "(x,y)": 2, "(x y)": 2, "f(,": 2, "f(,x)": 2, "f(x y)": 3, "f(x;": 3, "f(x,)": 4, "f(x,,y)": 4, "f(x, y;": 5, "f((x;": 4, "f((x, y))": 4,
		"- ;": 1, "! )": 1, "a < = b": 2, "x + if": 2, `x + "a"`: 2, "x && && y": 2, "(x + )": 3, "((a)": -1, "f(x : y)": 3, "(a ? b, c)": 4, "x + int": 2, "x - ++y": 2, "f(x) + g(": -1, "~ int": 1,
	} {
		wantStop(t, s, want)
		wantBareParse(t, words(t, s), 0)
	}
}

// wrongWords are words that come of no token, and such that only look like others.
func wrongWords() []api.Word {
	return []api.Word{
		{}, {Kind: 6, S: "x"}, {Kind: -1, S: "+"}, {Kind: 99}, {S: "x"}, {S: "+"},
		{Kind: api.WName}, {Kind: api.WName, S: "int"}, {Kind: api.WName, S: "1"}, {Kind: api.WName, S: "x y"}, {Kind: api.WName, S: "("}, {Kind: api.WName, S: "x", V: 1}, {Kind: api.WName, S: "x", T: api.KInt},
		{Kind: api.WKey}, {Kind: api.WKey, S: "x"}, {Kind: api.WKey, S: "+"}, {Kind: api.WKey, S: "int", V: 1}, {Kind: api.WKey, S: "int", T: api.KInt}, {Kind: api.WKey, S: "unsigned int"},
		{Kind: api.WInt}, {Kind: api.WInt, V: 1}, {Kind: api.WInt, V: 1, T: api.KChar}, {Kind: api.WInt, V: 1, T: 9}, {Kind: api.WInt, V: -129, T: api.KInt}, {Kind: api.WInt, V: 1 << 31, T: api.KInt}, {Kind: api.WInt, V: -1, T: api.KUInt},
		{Kind: api.WInt, V: -1, T: api.KLong}, {Kind: api.WInt, S: "1", V: 1, T: api.KInt}, {Kind: api.WInt, S: "x", T: api.KInt},
		{Kind: api.WPunct}, {Kind: api.WPunct, S: "@"}, {Kind: api.WPunct, S: "#"}, {Kind: api.WPunct, S: "##"}, {Kind: api.WPunct, S: "+", V: 1}, {Kind: api.WPunct, S: ")", T: 1}, {Kind: api.WPunct, S: "(", V: 1}, {Kind: api.WPunct, S: "x"},
		{Kind: api.WPunct, S: "+ "}, {Kind: api.WPunct, S: "- -"}, {Kind: api.WPunct, S: "?:"}, {Kind: api.WPunct, S: "!", T: api.KInt}, {Kind: api.WPunct, S: ",", V: -1}, {Kind: api.WPunct, S: "int"},
		{Kind: api.WText, S: "x"}, {Kind: api.WText, S: "x", V: 1}, {Kind: api.WText, S: "+"}, {Kind: api.WText, S: "int"}, {Kind: api.WText, S: ")"}, {Kind: api.WText, S: strings.Repeat("x", 4097)},
	}
}

// P13.2: with a word that is none nothing can go on.
func TestParseWrongWords(t *testing.T) {
	for _, w := range wrongWords() {
		for s, complete := range map[string]bool{
			"": false, "x": true, "f(x)": true, "(x)": true, "x +": false, "-": false, "(": false, "(x": false, "(int": false, "(unsigned": false, "(int)": false, "f(": false, "f(x": false, "f(x,": false, "a ?": false, "a ? b": false, "a ? b :": false, "a ? b : c": true,
		} {
			l := words(t, s)
			place := len(l)
			w.Line = 101 + place
			l = append(append(l, w), words(t, "+ x) : y")...)
			if complete {
				e, n, errno, _ := expr.Parse(l, 0)
				if n != place || errno != api.OK || !expr.Right(e) {
					t.Errorf("%s: %d, %d", show(l), n, errno)
				}
			} else {
				wantNone(t, l, 0, api.ErrExpr, 101+place)
			}
			wantBareParse(t, l, 0)
		}
	}
}

// P13.2: from any place on; below 0, behind the end, and of more than 5000 words nothing.
func TestParseFrom(t *testing.T) {
	l := words(t, "x + f(y, 2) ; -a")
	for _, test := range []struct {
		from  int
		want  api.Expr
		place int
	}{
		{0, two(api.OAdd, x, call("f", y, number(2))), 8}, {1, call("f", y, number(2)), 8}, {2, call("f", y, number(2)), 8}, {4, y, 5}, {6, number(2), 7}, {9, one(api.ONeg, a), 11}, {10, a, 11},
	} {
		wantParsed(t, l, test.from, test.want, test.place)
	}
	for from, line := range map[int]int{3: 106, 5: 106, 7: 108, 8: 109, 11: 0} {
		wantNone(t, l, from, api.ErrExpr, line)
	}
	for _, from := range []int{-1, 12, 13, math.MaxInt, math.MinInt} {
		wantNone(t, l, from, api.ErrArg, 0)
	}
	wantNone(t, nil, 0, api.ErrExpr, 0)
	wantNone(t, []api.Word{}, 0, api.ErrExpr, 0)
	wantNone(t, nil, 1, api.ErrArg, 0)
	wantNone(t, nil, -1, api.ErrArg, 0)
	most := slices.Repeat([]api.Word{sign(";")}, 5000)
	most[4999] = api.Word{Kind: api.WName, S: "x"}
	wantParsed(t, most, 4999, x, 5000)
	wantNone(t, most, 5000, api.ErrExpr, 0)
	wantNone(t, most, 5001, api.ErrArg, 0)
	for _, from := range []int{0, 4999, 5000, 5001} {
		wantNone(t, append(most, sign(";")), from, api.ErrArg, 0)
	}
}

// P13.2: 60 high, and 61, of which the Line is the whole's.
func TestParseHigh(t *testing.T) {
	repeat := strings.Repeat
	for _, test := range []struct {
		what  string
		write func(n int) string // what is n + 1 high
		line  func(n int) int    // where the word is by which the whole is told
	}{
		{"signs", func(n int) string { return repeat("- ", n) + "x" }, func(int) int { return 0 }},
		{"`+` between signs", func(n int) string { return repeat("+ ~ + ", n) + "x" }, func(int) int { return 1 }},
		{"casts", func(n int) string { return repeat("(int) ", n) + "x" }, func(int) int { return 0 }},
		{"calls", func(n int) string { return repeat("f(", n) + "x" + repeat(")", n) }, func(int) int { return 0 }},
		{"brackets", func(n int) string { return repeat("(a + ", n) + "x" + repeat(")", n) }, func(int) int { return 2 }},
		{"a chain", func(n int) string { return "x" + repeat(" - a", n) }, func(n int) int { return 2*n - 1 }},
		{"a chain of `&&`", func(n int) string { return "x" + repeat(" && a", n) }, func(n int) int { return 2*n - 1 }},
		{"a chain of `? :`", func(n int) string { return repeat("a ? b : ", n) + "x" }, func(int) int { return 1 }},
		{"`? :` within each other", func(n int) string { return repeat("a ? ", n) + "x" + repeat(" : b", n) }, func(int) int { return 1 }},
		{"a chain of `>`", func(n int) string { return "x" + repeat(" > a", n/2) + repeat(" < a", n%2) }, func(n int) int { return 2*(n/2+n%2) - 1 }},
	} {
		for high := 57; high < 70; high++ {
			l := words(t, test.write(high-1))
			if high > 60 {
				wantNone(t, l, 0, api.ErrDeep, 101+test.line(high-1))
				continue
			}
			e, n, errno, _ := expr.Parse(l, 0)
			if n != len(l) || errno != api.OK || bareHigh(e) != high || !expr.Right(e) || e.Line != 101+test.line(high-1) {
				t.Errorf("%s, %d high: %d, %d, %d high, line %d", test.what, high, n, errno, bareHigh(e), e.Line)
			}
		}
	}
	wantAll(t, repeat("(", 2000)+"x"+repeat(")", 2000), x)
	wantAll(t, repeat("+ ", 4000)+"x", x)
	wantAll(t, repeat("(+ ", 1000)+"f("+repeat("(", 500)+"x"+repeat(")", 1501), call("f", x))
}

// P13.2: calls of 8 arguments and of 9; the first one that ends counts.
func TestParseCalls(t *testing.T) {
	eight := slices.Repeat([]api.Expr{x}, 8)
	list := func(n int) string { return strings.TrimSuffix(strings.Repeat("x, ", n), ", ") }
	wantAll(t, "f("+list(8)+")", call("f", eight...))
	wantAll(t, "f("+list(7)+", g("+list(8)+"))", call("f", append(eight[:7:7], call("g", eight...))...))
	wantNone(t, words(t, "f("+list(9)+")"), 0, api.ErrCalls, 101)
	wantNone(t, words(t, "f("+list(2000)+")"), 0, api.ErrCalls, 101)
	wantNone(t, words(t, "1 + f("+list(9)+") y"), 0, api.ErrCalls, 103)
	wantNone(t, words(t, "f("+list(8)+", g("+list(9)+"))"), 0, api.ErrCalls, 119)
	wantNone(t, words(t, "f(g("+list(9)+"), "+list(8)+")"), 0, api.ErrCalls, 103)
	wantNone(t, words(t, "f(g("+list(8)+"), "+list(8)+")"), 0, api.ErrCalls, 101)
	wantNone(t, words(t, "a + f("+list(9)+") + g("+list(9)+")"), 0, api.ErrCalls, 103)
	wantNone(t, words(t, "f("+list(3)+", g("+list(9)+"), "+list(6)+")"), 0, api.ErrCalls, 109)
	wantNone(t, words(t, "f("+list(9)+") ? g("+list(10)+") : 1"), 0, api.ErrCalls, 101)
}

// R1: where several apply, the words come first, then the height, then calls.
func TestParseFirst(t *testing.T) {
	nine := "f(" + strings.TrimSuffix(strings.Repeat("x, ", 9), ", ") + ")"
	high := strings.Repeat("- ", 60)
	wantNone(t, words(t, nine+" + "+high+"x"), 0, api.ErrDeep, 121)
	wantNone(t, words(t, high+nine), 0, api.ErrDeep, 101)
	wantNone(t, words(t, high+nine+" +"), 0, api.ErrExpr, 0)
	wantNone(t, words(t, high+nine+" + ;"), 0, api.ErrExpr, 182)
	wantNone(t, words(t, high+"x * )"), 0, api.ErrExpr, 163)
	wantNone(t, words(t, nine+" * )"), 0, api.ErrExpr, 122)
	wantNone(t, words(t, "f("+nine+" ; )"), 0, api.ErrExpr, 123)
}

// P13.3: an expression's words, of Line 0, are parsed as the same.
func TestWords(t *testing.T) {
	wantWords(t, number(5), "5")
	wantWords(t, number(-128), `'\200'`)
	wantWords(t, integer(5, api.KUInt), "5u")
	wantWords(t, integer(5, api.KLong), "5l")
	wantWords(t, integer(-1, api.KULong), "18446744073709551615ul")
	wantWords(t, x, "x")
	wantWords(t, one(api.ONeg, one(api.ONeg, x)), "- - x")
	wantWords(t, one(api.OFlip, number(1)), "~ 1")
	wantWords(t, one(api.ONot, two(api.OLeq, a, b)), "! ( a <= b )")
	wantWords(t, and(a, b), "( a && b )")
	wantWords(t, or(and(a, b), c), "( ( a && b ) || c )")
	wantWords(t, choice(a, choice(a, b, c), c), "( a ? ( a ? b : c ) : c )")
	wantWords(t, call("f"), "f ( )")
	wantWords(t, call("f", a), "f ( a )")
	wantWords(t, call("f", a, one(api.ONeg, b), call("g"), c), "f ( a , - b , g ( ) , c )")
	wantWords(t, call("f", slices.Repeat([]api.Expr{two(api.OAdd, a, b)}, 8)...), "f ( "+strings.Repeat("( a + b ) , ", 7)+"( a + b ) )")
	wantWords(t, one(api.ONeg, choice(a, b, c)), "- ( a ? b : c )")
	wantWords(t, cast(api.KUChar, one(api.ONeg, x)), "( unsigned char ) - x")
	wantWords(t, cast(api.KInt, two(api.OMod, a, b)), "( int ) ( a % b )")
	for op := api.OAdd; op <= api.ONeq; op++ {
		wantWords(t, two(op, a, two(op, b, c)), "( a "+arith.Sign(op)+" ( b "+arith.Sign(op)+" c ) )")
		wantWords(t, two(op, two(op, a, b), c), "( ( a "+arith.Sign(op)+" b ) "+arith.Sign(op)+" c )")
	}
	for k := api.KChar; k <= api.KULong; k++ {
		wantWords(t, cast(k, cast(k, x)), "( "+kind.Name(k)+" ) ( "+kind.Name(k)+" ) x")
	}
	wantWords(t, moved(choice(call("f", a, b), cast(api.KChar, number(1)), one(api.ONot, b)), 7), "( f ( a , b ) ? ( char ) 1 : ! b )")
	wantWords(t, tower(60, rounds[1]), strings.Repeat("( ", 59)+"x"+strings.Repeat(" * a )", 59))
	wantWords(t, tower(60, rounds[8]), strings.Repeat("( a ? ", 59)+"x"+strings.Repeat(" : b )", 59))
}

// all are variables of all kinds, named as these are, without blanks.
func all() []api.Var {
	var l []api.Var
	for k := api.KChar; k <= api.KULong; k++ {
		l = append(l, api.Var{Name: named(k), K: k})
	}
	return l
}

func named(k int) string { return "v" + strconv.Itoa(k) }

func sig(name string, ret int, args ...int) api.Sig {
	s := api.Sig{Name: name, Ret: ret}
	for i, k := range args {
		s.Args = append(s.Args, api.Var{Name: "p" + strconv.Itoa(i), K: k})
	}
	return s
}

// P13.4: the kinds of each sort.
func TestTypedKinds(t *testing.T) {
	vars := all()
	var sigs []api.Sig
	for k := api.KVoid; k <= api.KULong; k++ {
		sigs = append(sigs, sig("f"+strconv.Itoa(k), k))
	}
	for _, test := range []struct {
		s string
		k int
	}{
		{"5", api.KInt}, {"5u", api.KUInt}, {"5l", api.KLong}, {"5ul", api.KULong}, {"'a'", api.KInt},
	} {
		wantKind(t, test.s, vars, sigs, test.k)
	}
	for k := api.KChar; k <= api.KULong; k++ {
		v := named(k)
		promoted, _ := kind.Promoted(k)
		wantKind(t, v, vars, sigs, k)
		wantKind(t, "-"+v, vars, sigs, promoted)
		wantKind(t, "~"+v, vars, sigs, promoted)
		wantKind(t, "+"+v, vars, sigs, k)
		wantKind(t, "!"+v, vars, sigs, api.KInt)
		wantKind(t, "("+kind.Name(k)+") 1", vars, sigs, k)
		wantKind(t, "f"+strconv.Itoa(k)+"()", vars, sigs, k)
		for r := api.KChar; r <= api.KULong; r++ {
			w := named(r)
			usual, _ := kind.Usual(k, r)
			for _, op := range []string{"+", "-", "*", "/", "%", "&", "^", "|"} {
				wantKind(t, v+op+w, vars, sigs, usual)
			}
			for _, op := range []string{"<<", ">>"} {
				wantKind(t, v+op+w, vars, sigs, promoted)
			}
			for _, op := range []string{"<", "<=", ">", ">=", "==", "!=", "&&", "||"} {
				wantKind(t, v+op+w, vars, sigs, api.KInt)
			}
			wantKind(t, "5ul ?"+v+":"+w, vars, sigs, usual)
			wantKind(t, "("+kind.Name(k)+")"+w, vars, sigs, k)
		}
	}
}

// P13.4: arguments are cast to their parameters' kinds, on their line, where these are others.
func TestTypedArguments(t *testing.T) {
	v := at(3, variable("v"))
	vars := []api.Var{{Name: "v", K: api.KShort}}
	told := as(api.KShort, v)
	for k := api.KChar; k <= api.KULong; k++ {
		want := at(3, api.Expr{Is: api.ECast, K: k, L: []api.Expr{told}})
		if k == api.KShort {
			want = told
		}
		wantTyped(t, at(1, call("f", v)), vars, []api.Sig{sig("f", api.KULong, k)}, at(1, as(api.KULong, call("f", want))))
	}
	wide := func(line int, e api.Expr) api.Expr { return at(line, as(api.KLong, cast(api.KLong, e))) }
	sigs := []api.Sig{sig("g", api.KInt, api.KShort, api.KLong), sig("f", api.KChar, api.KInt, api.KLong, api.KShort)}
	wantTyped(t, at(1, call("f", at(2, number(1)), at(4, call("g", v, v)), v)), vars, sigs,
		at(1, as(api.KChar, call("f", at(2, number(1)), wide(4, at(4, as(api.KInt, call("g", told, wide(3, told))))), told))))
	given := at(1, call("f", at(2, cast(api.KLong, v))))
	wantTyped(t, given, vars, []api.Sig{sig("f", api.KInt, api.KLong)}, at(1, as(api.KInt, call("f", at(2, cast(api.KLong, told))))))
	wantTyped(t, given, vars, []api.Sig{sig("f", api.KInt, api.KShort)}, at(1, as(api.KInt, call("f", at(2, cast(api.KShort, at(2, cast(api.KLong, told))))))))
}

// P13.4: the second and the third part of `? :` are cast to their usual kind, where theirs are others; the first one stays.
func TestTypedChoice(t *testing.T) {
	vars := all()
	for k := api.KChar; k <= api.KULong; k++ {
		for r := api.KChar; r <= api.KULong; r++ {
			usual, _ := kind.Usual(k, r)
			part := func(line, k int) api.Expr {
				e := at(line, as(k, variable(named(k))))
				if k != usual {
					e = at(line, cast(usual, e))
				}
				return e
			}
			first := at(2, variable(named(9-k)))
			e := at(1, choice(first, at(3, variable(named(k))), at(4, variable(named(r)))))
			wantTyped(t, e, vars, nil, at(1, as(usual, choice(as(9-k, first), part(3, k), part(4, r)))))
		}
	}
}

// P13.4: the whole alone may be of KVoid, a call.
func TestTypedVoid(t *testing.T) {
	sigs := []api.Sig{sig("v", api.KVoid), sig("w", api.KVoid, api.KChar), sig("f", api.KInt, api.KInt)}
	wantTyped(t, at(5, call("v")), nil, sigs, at(5, call("v")))
	wantTyped(t, at(5, call("w", at(6, number(1)))), nil, sigs, at(5, call("w", at(6, cast(api.KChar, at(6, number(1)))))))
	inner := at(9, call("v"))
	vars := []api.Var{{Name: "a", K: api.KInt}, {Name: "b", K: api.KInt}}
	three := []api.Sig{sig("f", api.KInt, api.KInt, api.KInt, api.KInt), sig("v", api.KVoid)}
	for _, round := range rounds {
		wantUntyped(t, round(inner), vars, three, api.ErrCalls, 9)
		wantUntyped(t, round(round(inner)), vars, three, api.ErrCalls, 9)
	}
	wantUntyped(t, at(1, call("w", inner)), nil, sigs, api.ErrCalls, 9)
	wantUntyped(t, at(1, call("w", at(8, call("w", at(7, number(1)))))), nil, sigs, api.ErrCalls, 8)
	wantUntyped(t, at(1, call("w", at(8, call("w", inner)))), nil, sigs, api.ErrCalls, 9)
}

// P13.4: names that are not there; variables and functions don't stand in for each other, and of one name the first one counts.
func TestTypedNames(t *testing.T) {
	vars := []api.Var{{Name: "x", K: api.KLong}, {Name: "x", K: api.KChar}, {Name: "g", K: api.KInt}, {Name: "", K: api.KInt}, {Name: "X", K: api.KUInt}}
	sigs := []api.Sig{sig("f", api.KShort), sig("f", api.KULong, api.KInt), sig("y", api.KInt), sig("x", api.KUChar)}
	wantTyped(t, at(1, x), vars, sigs, at(1, as(api.KLong, x)))
	wantTyped(t, at(1, call("x")), vars, sigs, at(1, as(api.KUChar, call("x"))))
	wantTyped(t, at(1, call("f")), vars, sigs, at(1, as(api.KShort, call("f"))))
	wantUntyped(t, at(1, call("f", number(1))), vars, sigs, api.ErrCalls, 1)
	wantUntyped(t, at(1, y), vars, sigs, api.ErrName, 1)
	wantUntyped(t, at(1, call("g")), vars, sigs, api.ErrName, 1)
	wantUntyped(t, at(1, call("g", at(2, y))), vars, sigs, api.ErrName, 2)
	wantUntyped(t, at(1, variable("xx")), vars, sigs, api.ErrName, 1)
	wantUntyped(t, at(1, x), nil, nil, api.ErrName, 1)
	wantUntyped(t, at(1, call("f")), nil, nil, api.ErrName, 1)
	wantUntyped(t, at(-3, call("f")), []api.Var{}, []api.Sig{}, api.ErrName, -3)
	wantTyped(t, number(1), nil, nil, number(1))
	wantUntyped(t, at(1, x), []api.Var{{Name: "x", K: 0}, {Name: "x", K: api.KChar}}, nil, api.ErrCalls, 1)
	wantUntyped(t, at(1, call("x")), nil, []api.Sig{sig("x", 77), sig("x", api.KInt)}, api.ErrCalls, 1)
}

// P13.4: as many arguments as parameters.
func TestTypedCalls(t *testing.T) {
	for params := range 12 {
		sigs := []api.Sig{sig("f", api.KInt, slices.Repeat([]int{api.KInt}, params)...)}
		for args := range 9 {
			e := at(4, call("f", slices.Repeat([]api.Expr{at(5, number(1))}, args)...))
			if args == params {
				wantTyped(t, e, nil, sigs, as(api.KInt, e))
			} else {
				wantUntyped(t, e, nil, sigs, api.ErrCalls, 4)
			}
		}
	}
}

// P13.4: variables, parameters and what comes back, of kinds that are none.
func TestTypedNoKinds(t *testing.T) {
	for _, k := range []int{api.KVoid, -1, 9, math.MaxInt, math.MinInt, 1<<32 + api.KInt} {
		wantUntyped(t, at(1, x), []api.Var{{Name: "x", K: k}}, nil, api.ErrCalls, 1)
		wantUntyped(t, at(2, one(api.ONot, at(1, x))), []api.Var{{Name: "x", K: k}}, nil, api.ErrCalls, 1)
		wantTyped(t, number(1), []api.Var{{Name: "x", K: k}}, []api.Sig{sig("f", k, k)}, number(1))
		for place := range 3 {
			params := []int{api.KInt, api.KInt, api.KInt}
			params[place] = k
			e := at(1, call("f", slices.Repeat([]api.Expr{at(2, number(1))}, 3)...))
			wantUntyped(t, e, nil, []api.Sig{sig("f", api.KInt, params...)}, api.ErrCalls, 1)
			wantUntyped(t, e, nil, []api.Sig{sig("f", api.KVoid, params...)}, api.ErrCalls, 1)
		}
		if k != api.KVoid {
			wantUntyped(t, at(1, call("f")), nil, []api.Sig{sig("f", k)}, api.ErrCalls, 1)
		}
		wantUntyped(t, at(2, one(api.ONot, at(1, call("f")))), nil, []api.Sig{sig("f", k)}, api.ErrCalls, 1)
	}
}

// P13.4: the first part that has one, parts ahead of what has them; R1: a name that is not there ahead of all that is wrong with it.
func TestTypedFirst(t *testing.T) {
	vars := []api.Var{{Name: "x", K: api.KInt}, {Name: "n", K: 0}}
	sigs := []api.Sig{sig("f", api.KInt, api.KInt), sig("v", api.KVoid)}
	no, none, nothing := at(1, y), at(2, variable("n")), at(3, call("v"))
	wantUntyped(t, two(api.OAdd, no, none), vars, sigs, api.ErrName, 1)
	wantUntyped(t, two(api.OAdd, none, no), vars, sigs, api.ErrCalls, 2)
	wantUntyped(t, two(api.OAdd, nothing, no), vars, sigs, api.ErrCalls, 3)
	wantUntyped(t, and(no, nothing), vars, sigs, api.ErrName, 1)
	wantUntyped(t, at(9, call("f", no, x)), vars, sigs, api.ErrName, 1)
	wantUntyped(t, at(9, call("g", none)), vars, sigs, api.ErrCalls, 2)
	wantUntyped(t, at(9, call("g", at(8, x))), vars, sigs, api.ErrName, 9)
	wantUntyped(t, at(9, call("f", nothing, no)), vars, sigs, api.ErrCalls, 3)
	wantUntyped(t, at(9, call("f", at(7, call("v", no)))), vars, sigs, api.ErrName, 1)
	wantUntyped(t, at(9, call("f", at(7, call("v", x)))), vars, sigs, api.ErrCalls, 7)
	wantUntyped(t, choice(at(4, x), at(5, call("f")), no), vars, sigs, api.ErrCalls, 5)
	wantUntyped(t, choice(at(4, x), at(5, call("f", at(6, x))), no), vars, sigs, api.ErrName, 1)
	wantUntyped(t, two(api.OAdd, no, api.Expr{}), vars, sigs, api.ErrArg, 0)
	wantUntyped(t, as(api.KInt, no), vars, sigs, api.ErrArg, 0)
}

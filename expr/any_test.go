package expr_test

import (
	"math"
	"slices"
	"strings"
	"testing"

	"burin/api"
	"burin/arith"
	"burin/expr"
	"burin/kind"
)

// maker makes words, expressions and names of all sorts, the same ones each time.
type maker struct{ seed uint64 }

func (m *maker) below(n int) int {
	m.seed = m.seed*6364136223846793005 + 1442695040888963407
	return int(m.seed >> 33 % uint64(n))
}

func (m *maker) one(s string) string {
	l := strings.Fields(s)
	return l[m.below(len(l))]
}

// text is an expression's words.
func (m *maker) text(deep int) string {
	choice := m.below(14)
	if deep == 1 {
		choice = m.below(3)
	}
	part := func() string { return m.text(1 + m.below(deep-1)) }
	switch choice {
	case 0:
		return m.one("1 5u 7l 8ul 'a' '\\377' 4294967296 0x80000000 18446744073709551615u")
	case 1, 2:
		return m.one("a b c x y f")
	case 3:
		return m.one("- ~ ! + + ! -") + " " + part()
	case 4:
		return "( " + m.one("int char;signed int;unsigned long;long;unsigned;unsigned;char;short;unsigned;signed;long") + " ) " + part()
	case 5:
		return "( " + part() + " )"
	case 6:
		return m.one("f g h x") + " ( " + m.list(deep) + " )"
	case 7, 8:
		return part() + " ? " + part() + " : " + part()
	}
	return part() + " " + m.one(strings.Join(bareLevels, " ")) + " " + part()
}

func (m *maker) list(deep int) string {
	l := make([]string, m.below(4))
	if m.below(3) == 0 {
		l, deep = make([]string, 7+m.below(4)), 2
	}
	for i := range l {
		l[i] = m.text(1 + m.below(deep-1))
	}
	return strings.Join(l, " , ")
}

// words are an expression's, with some that do not belong there, most times.
func (m *maker) words(t *testing.T) []api.Word {
	s := m.text(1 + m.below(5))
	switch m.below(12) {
	case 0:
		s = strings.Repeat(m.one("-;~;+;(long);(a+;f(;a?b:;a-;a>=;a||;(")+" ", 50+m.below(15)) + s
		s = strings.ReplaceAll(s, ";", " ")
		s += strings.Repeat(" )", m.below(70))
	case 1:
		s += strings.Repeat(" "+m.one("+ - > <= && ||")+" a", 45+m.below(15))
	}
	l := words(t, strings.ReplaceAll(s, ";", " "))
	for range m.below(4) * m.below(2) {
		l = m.spoilt(l)
	}
	for i := range l {
		l[i].Line = 5*i + 7
	}
	return l
}

// spoilt are words of which one is another one, gone, or new.
func (m *maker) spoilt(l []api.Word) []api.Word {
	i := m.below(len(l) + 1)
	some := append(wrongWords(), sign(";"), sign(","), sign(")"), sign("("), sign("?"), sign(":"), sign("-"), sign("++"), sign("="))
	some = append(some, api.Word{Kind: api.WKey, S: "int"}, api.Word{Kind: api.WKey, S: "void"}, api.Word{Kind: api.WKey, S: "long"}, api.Word{Kind: api.WText, S: "t"}, api.Word{Kind: api.WName, S: "q"})
	other := some[m.below(len(some))]
	switch m.below(4) {
	case 0:
		return slices.Insert(l, i, other)
	case 1:
		return l[:i]
	}
	if i == len(l) {
		return append(l, other)
	}
	if m.below(2) == 0 {
		return slices.Delete(l, i, i+1)
	}
	l[i] = other
	return l
}

// right is a right expression, at most so high.
func (m *maker) right(high int) api.Expr {
	e := m.alone(high)
	e.Line = 1 + m.below(1000)
	return e
}

func (m *maker) alone(high int) api.Expr {
	sort := m.below(10)
	if high == 1 {
		sort = m.below(3)
	}
	parts := func(n int) []api.Expr {
		var l []api.Expr
		for range n {
			l = append(l, m.right(1+m.below(high-1)))
		}
		return l
	}
	switch sort {
	case 0:
		return m.number()
	case 1, 2:
		return variable(m.one("a b c x y n"))
	case 3:
		return api.Expr{Is: api.EOne, Op: api.ONeg + m.below(3), L: parts(1)}
	case 4, 5:
		return api.Expr{Is: api.ETwo, Op: api.OAdd + m.below(14), L: parts(2)}
	case 6:
		return api.Expr{Is: api.EAnd + m.below(2), L: parts(2)}
	case 7:
		return api.Expr{Is: api.ECast, K: api.KChar + m.below(8), L: parts(1)}
	case 8:
		if m.below(20) == 0 {
			return call("o")
		}
		return call(m.one("f0 f1 f2 f3 v1"), parts(m.below(4))...)
	}
	return api.Expr{Is: api.ECond, L: parts(3)}
}

func (m *maker) number() api.Expr {
	v := int64(m.seed)
	switch m.below(4) {
	case 0:
		return integer([]int64{-128, -1, 0, math.MaxInt32}[m.below(4)], api.KInt)
	case 1:
		return integer(v&math.MaxUint32, api.KUInt)
	case 2:
		return integer(v&math.MaxInt64, api.KLong)
	}
	return integer(v, api.KULong)
}

// changed is an expression of which one part, at any place, is changed in one field.
func (m *maker) changed(e api.Expr) api.Expr {
	e = copied(e)
	part := &e
	for len(part.L) > 0 && m.below(4) > 0 {
		part = &part.L[m.below(len(part.L))]
	}
	switch m.below(8) {
	case 0:
		part.Is = m.below(12)
	case 1:
		part.Op = m.below(20) - 1
	case 2:
		part.K = m.below(11) - 1
	case 3:
		part.V = int64(m.seed)
	case 4:
		part.Name = m.one("a f int 1 q_ void")
	case 5:
		part.L = append(part.L, a)
	case 6:
		part.L = part.L[:len(part.L)/2]
	case 7:
		*part = tower(56+m.below(6), rounds[m.below(len(rounds))])
	}
	return e
}

// names are variables and functions, some of which are wrong, or said again.
func (m *maker) names(errors bool) ([]api.Var, []api.Sig) {
	any := func() int {
		if errors && m.below(40) == 0 {
			return m.below(14) - 3
		}
		return api.KChar + m.below(8)
	}
	var vars []api.Var
	for _, name := range strings.Fields("a b c x y n a b f0 f") {
		if !errors || m.below(10) > 0 {
			vars = append(vars, api.Var{Name: name, K: any()})
		}
	}
	sigs := []api.Sig{sig("f0", any()), sig("f1", any(), any()), sig("f2", any(), any(), any()), sig("f3", any(), any(), any(), any()), sig("v1", any(), any()), sig("o", any())}
	if m.below(2) == 0 {
		sigs[4].Ret = api.KVoid
	}
	if errors {
		if m.below(4) == 0 {
			i := m.below(len(sigs))
			sigs = slices.Delete(sigs, i, i+1)
		}
		sigs = append(sigs, sig("f1", any(), any(), any()))
	}
	return vars, sigs
}

// fitted is an expression in which each call has as many arguments as its function's name says; some are of v1.
func fitted(e api.Expr) api.Expr {
	e = copied(e)
	for i := range e.L {
		e.L[i] = fitted(e.L[i])
	}
	if e.Is == api.ECall {
		e.Name = []string{"f0", "f1", "f2", "f3"}[len(e.L)]
		if e.Line%16 == 0 && len(e.L) == 1 {
			e.Name = "v1"
		}
	}
	return e
}

// P13.2: words of all sorts, from all places, against the second reading; a prefix that is an expression's beginning.
func TestAnyParse(t *testing.T) {
	told := map[api.Errno]int{}
	roots := map[int]int{}
	early := 0
	for seed := range 10000 {
		m := maker{uint64(seed)}
		l := m.words(t)
		for _, from := range []int{0, m.below(len(l) + 1), m.below(len(l)+3) - 1} {
			wantBareParse(t, l, from)
			e, n, errno, _ := expr.Parse(l, from)
			told[errno]++
			roots[e.Is]++
			if errno == api.OK && n < len(l) {
				early++
			}
		}
	}
	for _, errno := range []api.Errno{api.OK, api.ErrExpr, api.ErrDeep, api.ErrCalls, api.ErrArg} {
		if told[errno] < 100 {
			t.Errorf("%d is told %d times", errno, told[errno])
		}
	}
	for is := api.EInt; is <= api.ECond; is++ {
		if roots[is] < 250 {
			t.Errorf("sort %d is parsed %d times", is, roots[is])
		}
	}
	if early < 2000 {
		t.Errorf("%d expressions have words behind them", early)
	}
}

// P13.2: all short lists of words, against the second reading.
func TestEveryShortText(t *testing.T) {
	some := []api.Word{
		{Kind: api.WName, S: "x"}, {Kind: api.WInt, V: 5, T: api.KInt}, sign("("), sign(")"), sign(","), sign("-"), sign("+"), sign("!"), sign("*"), sign(">"), sign("&&"), sign("?"), sign(":"),
		{Kind: api.WKey, S: "char"}, {Kind: api.WKey, S: "long"}, {Kind: api.WKey, S: "void"}, sign(";"), {},
	}
	lists := [][]api.Word{nil}
	for begin, end := 0, 1; len(lists) < 100000; begin, end = end, len(lists) {
		for _, l := range lists[begin:end] {
			for _, w := range some {
				w.Line = 1 + len(l)
				lists = append(lists, append(slices.Clone(l), w))
			}
		}
	}
	right := map[api.Errno]int{}
	for _, l := range lists {
		wantBareParse(t, l, 0)
		_, _, errno, _ := expr.Parse(l, 0)
		right[errno]++
	}
	if right[api.OK] < 5000 || right[api.ErrExpr] < 10000 {
		t.Errorf("told %v", right)
	}
}

// P13.1: expressions of all sorts, right ones and such with one field changed, against the second reading; alike are only those that are.
func TestAnyRight(t *testing.T) {
	told := map[bool]int{}
	for seed := range 20000 {
		m := maker{uint64(seed)}
		e := m.right(1 + m.below(7))
		f := m.changed(e)
		if !expr.Right(e) || expr.Right(f) != bareRight(f) {
			t.Errorf("%s: %v; %s: %v", show(e), expr.Right(e), show(f), expr.Right(f))
		}
		told[expr.Right(f)]++
		alike := bareSame(e, f)
		if expr.Same(e, f) != alike || expr.Same(f, e) != alike || !expr.Same(moved(f, m.below(5)), f) {
			t.Errorf("%s and %s: %v", show(e), show(f), !alike)
		}
	}
	if told[true] < 2000 || told[false] < 5000 {
		t.Errorf("told %v", told)
	}
}

// bareSame goes through the parts of both, one behind the other.
func bareSame(a, b api.Expr) bool {
	l, r := bareParts(a), bareParts(b)
	return slices.EqualFunc(l, r, func(a, b api.Expr) bool {
		return a.Is == b.Is && a.Op == b.Op && a.K == b.K && a.V == b.V && a.Name == b.Name && len(a.L) == len(b.L)
	})
}

// P13.3, P13.5: words of expressions of all sorts, against the second reading; they are parsed as the same, and from no place within as the same.
func TestAnyWords(t *testing.T) {
	for seed := range 10000 {
		m := maker{uint64(seed)}
		e := m.right(1 + m.below(7))
		l, errno := expr.Words(e)
		if !slices.Equal(l, bareWords(bareText(e))) || errno != api.OK {
			t.Errorf("%s: %s, %d", show(e), show(l), errno)
		}
		if len(l) <= 5000 {
			wantParsed(t, l, 0, e, len(l))
		}
		f := m.changed(e)
		if l, errno := expr.Words(f); !bareRight(f) && (len(l) > 0 || errno != api.ErrArg) || bareRight(f) && errno != api.OK {
			t.Errorf("%s: %s, %d", show(f), show(l), errno)
		}
	}
}

// P13.5: what is parsed, and said again, is parsed as the same.
func TestAnyBack(t *testing.T) {
	for seed := range 5000 {
		m := maker{uint64(seed)}
		e, _, errno, _ := expr.Parse(m.words(t), 0)
		if errno != api.OK {
			continue
		}
		l, _ := expr.Words(e)
		wantParsed(t, l, 0, e, len(l))
		wantParsed(t, append(l, api.Word{}), 0, e, len(l))
	}
}

// wantFollows asks of each part of what is typed for the kind that arith and kind tell of its own.
func wantFollows(t *testing.T, e api.Expr, whole bool) {
	t.Helper()
	want, errno := e.K, api.OK
	switch e.Is {
	case api.EOne:
		want, errno = arith.Result(e.Op, e.L[0].K, 0)
	case api.ETwo:
		want, errno = arith.Result(e.Op, e.L[0].K, e.L[1].K)
	case api.EAnd, api.EOr:
		want = api.KInt
	case api.ECond:
		want, errno = kind.Usual(e.L[1].K, e.L[2].K)
		if e.L[1].K != want || e.L[2].K != want {
			t.Errorf("%s: parts are of %d and %d", show(e), e.L[1].K, e.L[2].K)
		}
	}
	if e.K != want || errno != api.OK || kind.Size(e.K) == 0 && !(whole && e.Is == api.ECall && e.K == api.KVoid) {
		t.Errorf("%s: want %d", show(e), want)
	}
	for _, part := range e.L {
		wantFollows(t, part, false)
	}
}

// P13.4, P13.5: expressions of all sorts, with names of all sorts, against the second reading.
func TestAnyTyped(t *testing.T) {
	told := map[api.Errno]int{}
	voids, casts := 0, 0
	for seed := range 20000 {
		m := maker{uint64(seed)}
		e := m.right(1 + m.below(6))
		if m.below(3) > 0 {
			e = fitted(e)
		}
		switch m.below(20) {
		case 0:
			e = m.changed(e)
		case 1:
			e = at(7, call("v1", e))
		}
		vars, sigs := m.names(m.below(2) == 0)
		want, errno, where := bareTyped(e, vars, sigs)
		got, told1, line := expr.Typed(e, vars, sigs)
		if !same(got, want) || told1 != errno || line != where {
			t.Errorf("%s, %s, %s: %s, %d, %d; want %s, %d, %d", show(e), show(vars), show(sigs), show(got), told1, line, show(want), errno, where)
		}
		told[errno]++
		if errno != api.OK {
			continue
		}
		wantFollows(t, got, true)
		if got.K == api.KVoid {
			voids++
		}
		casts += len(bareParts(got)) - len(bareParts(e))
	}
	for _, errno := range []api.Errno{api.OK, api.ErrName, api.ErrCalls, api.ErrArg} {
		if told[errno] < 400 {
			t.Errorf("%d is told %d times", errno, told[errno])
		}
	}
	if voids < 50 || casts < 5000 {
		t.Errorf("%d of KVoid, %d casts made", voids, casts)
	}
}

// R3, R4: what is handed in is as it was, its spare room too, and is not kept; what is answered is new.
func TestMemory(t *testing.T) {
	for seed := range 500 {
		m := maker{uint64(seed)}
		e := fitted(m.right(5))
		vars, sigs := m.names(false)
		given, kept := roomy(e), copied(e)
		wantLeft := func(what string) {
			if !same(given, kept) || !roomLeft(given) {
				t.Errorf("%s: %s is written into: %s", what, show(kept), show(given))
			}
		}
		l, _ := expr.Words(given)
		wantLeft("Words")
		typed, _, _ := expr.Typed(given, vars, sigs)
		wantLeft("Typed")
		words := append(slices.Clone(l), sign(";"), sign(";"))
		keptWords := slices.Clone(words)
		parsed, _, _, _ := expr.Parse(words[:len(l)], 0)
		if !slices.Equal(words, keptWords) {
			t.Errorf("%s: written into", show(keptWords))
		}
		wantApart(t, typed, given)
		wantApart(t, parsed, api.Expr{})
		toldTyped, toldParsed := copied(typed), copied(parsed)
		clear(words)
		spoil(given)
		clear(l[:cap(l)])
		if !same(typed, toldTyped) || !same(parsed, toldParsed) {
			t.Errorf("%s is kept", show(kept))
		}
		spoil(typed)
		spoil(parsed)
		again, _, _ := expr.Typed(kept, vars, sigs)
		parsedAgain, _, _, _ := expr.Parse(keptWords[:len(keptWords)-2], 0)
		if !same(again, toldTyped) || !same(parsedAgain, toldParsed) {
			t.Errorf("%s: %s, then %s; %s, then %s", show(kept), show(toldTyped), show(again), show(toldParsed), show(parsedAgain))
		}
	}
}

// roomy is an expression whose lists have spare room, which is marked.
func roomy(e api.Expr) api.Expr {
	n := len(e.L)
	room := append(slices.Clone(e.L), api.Expr{Is: 77}, api.Expr{Is: 77})
	for i := range n {
		room[i] = roomy(e.L[i])
	}
	e.L = room[:n]
	return e
}

func roomLeft(e api.Expr) bool {
	for _, spare := range e.L[len(e.L) : len(e.L)+2] {
		if spare.Is != 77 {
			return false
		}
	}
	return !slices.ContainsFunc(e.L, func(part api.Expr) bool { return !roomLeft(part) })
}

// spoil writes into all lists of an expression, and into their spare room.
func spoil(e api.Expr) {
	for i := range e.L {
		spoil(e.L[i])
	}
	clear(e.L[:cap(e.L)])
}

// wantApart looks for memory that two lists within expressions share.
func wantApart(t *testing.T, l ...api.Expr) {
	t.Helper()
	seen := map[*api.Expr]bool{}
	for _, e := range l {
		for _, part := range bareParts(e) {
			whole := part.L[:cap(part.L)]
			for i := range whole {
				if seen[&whole[i]] {
					t.Errorf("%s: lists share memory", show(e))
				}
				seen[&whole[i]] = true
			}
		}
	}
}

// R1, R5: as many words as may be, of all that may be within each other.
func TestGreatWords(t *testing.T) {
	for _, s := range []string{"(", "-", "+", "f(", "(int)", "a ?", "a ? b :", "a +", "a >=", "(+", "f(a,", "!(", "int", "(int", "a ? (", "x", ")", "f(f(a),", "(a ||"} {
		l := words(t, strings.Repeat(s+" ", 5000/len(strings.Fields(strings.NewReplacer("(", " ( ", ")", " ) ", ",", " , ").Replace(s)))))
		if len(l) > 5000 {
			l = l[:5000]
		}
		wantBareEnd(t, l)
		for _, end := range []string{"x", "x )", ";"} {
			l := append(slices.Clone(l[:2400]), words(t, end+strings.Repeat(" )", 2000))...)
			wantBareEnd(t, l)
		}
	}
}

// wantBareEnd holds all but the expression that is told against the second reading.
func wantBareEnd(t *testing.T, l []api.Word) {
	t.Helper()
	roles, ok := bareRoles(l, 0)
	e, n, errno, line := expr.Parse(l, 0)
	at := 0
	if len(roles) < len(l) {
		at = l[len(roles)].Line
	}
	switch {
	case !ok:
		ok = errno == api.ErrExpr && line == at && n == 0 && e.Is == 0
	case errno == api.OK:
		ok = n == len(roles) && line == 0 && expr.Right(e)
	default:
		ok = n == 0 && e.Is == 0 && (errno == api.ErrDeep || errno == api.ErrCalls)
	}
	if !ok {
		t.Errorf("%.60s: %d, %d, %d; read to %d", show(l), n, errno, line, len(roles))
	}
}

// R1, R5: expressions of many parts, as deep as may be, and of long names.
func TestGreat(t *testing.T) {
	deep := x
	for range 1<<16 - 1 {
		deep = one(api.ONeg, deep)
	}
	if l, errno := expr.Words(deep); expr.Right(deep) || len(l) > 0 || errno != api.ErrArg || !expr.Same(deep, copied(deep)) || expr.Same(deep, deep.L[0]) {
		t.Errorf("very deep: %d words, %d", len(l), errno)
	}
	wantUntyped(t, deep, nil, nil, api.ErrArg, 0)
	wide := call("f", slices.Repeat([]api.Expr{x}, 1<<20)...)
	if expr.Right(wide) || !expr.Same(wide, copied(wide)) {
		t.Error("very wide")
	}
	full := x
	for range 6 {
		full = call("f", slices.Repeat([]api.Expr{full}, 8)...)
	}
	sigs := []api.Sig{sig("f", api.KChar, 1, 2, 3, 4, 5, 6, 7, 8)}
	l, errno := expr.Words(full)
	told, f, _ := expr.Typed(full, []api.Var{{Name: "x", K: api.KInt}}, sigs)
	if !expr.Right(full) || len(l) != 1<<18+10*(1<<18-1)/7 || errno != api.OK || f != api.OK {
		t.Errorf("%d words, %d, %d", len(l), errno, f)
	}
	wantFollows(t, told, true)
	long := strings.Repeat("x", 1<<24)
	if !expr.Right(variable(long)) || expr.Right(variable(long+" ")) {
		t.Error("a long name")
	}
	vars := make([]api.Var, 1<<20)
	wantTyped(t, x, append(vars, api.Var{Name: "x", K: api.KShort}), make([]api.Sig, 1<<20), as(api.KShort, x))
}

// FuzzAny holds all calls on made things against the second reading.
func FuzzAny(f *testing.F) {
	f.Fuzz(func(t *testing.T, seed uint64) {
		m := maker{seed}
		l := m.words(t)
		wantBareParse(t, l, m.below(len(l)+1))
		e := m.changed(m.right(6))
		if expr.Right(e) != bareRight(e) {
			t.Errorf("%s: %v", show(e), expr.Right(e))
		}
		vars, sigs := m.names(true)
		want, errno, where := bareTyped(e, vars, sigs)
		got, told, line := expr.Typed(e, vars, sigs)
		if !same(got, want) || told != errno || line != where {
			t.Errorf("%s: %s, %d, %d; want %s, %d, %d", show(e), show(got), told, line, show(want), errno, where)
		}
	})
}

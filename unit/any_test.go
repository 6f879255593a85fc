package unit_test

import (
	"slices"
	"strings"
	"testing"

	"burin/api"
	"burin/expr"
	"burin/kind"
	"burin/unit"
)

// maker makes units, words and changes of all sorts, the same ones each time. If it is wild, some of what it makes may not be.
type maker struct {
	seed  uint64
	wild  bool
	vars  []string
	fresh int
	known []api.Func
	f     api.Func
	loops int
}

func (m *maker) below(n int) int {
	m.seed = m.seed*6364136223846793005 + 1442695040888963407
	return int(m.seed >> 33 % uint64(n))
}

func (m *maker) one(s string) string {
	l := strings.Fields(s)
	return l[m.below(len(l))]
}

func (m *maker) wildly() bool { return m.wild && m.below(60) == 0 }

func (m *maker) kind() int { return api.KChar + m.below(8) }

func (m *maker) line() int { return m.below(1000) }

func (m *maker) unit() api.Unit {
	m.wild = m.below(2) == 0
	for range 1 + m.below(5) {
		m.f = m.head()
		m.vars, m.fresh, m.loops = nil, 0, 0
		for _, a := range m.f.Sig.Args {
			m.vars = append(m.vars, a.Name)
		}
		if m.f.Has {
			m.f.Body = m.list(1+m.below(5), m.below(6))
		}
		m.known = append(m.known, m.f)
	}
	return api.Unit{L: m.known}
}

// head is one of a new function, or of one that is known.
func (m *maker) head() api.Func {
	f := api.Func{Sig: api.Sig{Name: m.one("f g h i j"), Ret: m.below(9)}, Has: m.below(3) > 0, Line: m.line()}
	for i := range m.below(4) {
		f.Sig.Args = append(f.Sig.Args, api.Var{Name: string(rune('a' + i)), K: m.kind()})
	}
	for _, k := range m.known {
		if k.Sig.Name == f.Sig.Name {
			f.Sig.Ret, f.Sig.Args = k.Sig.Ret, slices.Clone(k.Sig.Args)
			f.Has = f.Has && !k.Has
		}
	}
	switch {
	case !m.wildly():
	case m.below(4) == 0:
		f.Sig.Ret = m.below(9)
	case m.below(3) == 0:
		f.Has = true
	case m.below(2) == 0:
		f.Sig.Args = append(f.Sig.Args, api.Var{Name: m.one("a b c d"), K: m.kind()})
	default:
		f.Sig.Args = slices.Repeat([]api.Var{{Name: "a", K: m.kind()}}, 8+m.below(3))
	}
	return f
}

func (m *maker) list(high, n int) []api.Stmt {
	there := len(m.vars)
	var l []api.Stmt
	for range n {
		l = append(l, m.statement(high))
	}
	if !m.wildly() {
		m.vars = m.vars[:there]
	}
	return l
}

func (m *maker) statement(high int) api.Stmt {
	s := api.Stmt{Line: m.line()}
	sort := m.below(13)
	if high == 1 {
		sort = m.below(9)
	}
	m.fill(&s, sort, high)
	return s
}

func (m *maker) fill(s *api.Stmt, sort, high int) {
	inner := func(n int) []api.Stmt { return m.list(1+m.below(high-1), n) }
	switch {
	case sort < 3:
		s.Is, s.K, s.Name = api.XDecl, m.kind(), string(rune('k'+m.fresh%15))
		if m.below(4) > 0 {
			s.E = m.expression()
		}
		if m.wildly() {
			s.Name = m.one("a b k l")
		}
		m.fresh++
		m.vars = append(m.vars, s.Name)
	case sort < 5 && len(m.vars) > 0:
		s.Is, s.Name, s.E = api.XSet, m.variable(), m.expression()
	case sort == 5:
		s.Is, s.E = api.XCall, []api.Expr{m.call(true)}
		if m.wildly() {
			s.E = m.expression()
		}
	case sort == 6:
		s.Is = api.XReturn
		if (m.f.Sig.Ret != api.KVoid) != m.wildly() {
			s.E = m.expression()
		}
	case sort == 7 && (m.loops > 0 || m.wildly()):
		s.Is = api.XBreak + m.below(2)
	case sort < 9:
		s.Is = api.XBlock
	case sort == 9:
		s.Is, s.L = api.XBlock, inner(m.below(4))
	case sort == 10:
		m.loops++
		s.Is, s.E, s.L = api.XWhile, m.expression(), inner(1)
		m.loops--
	default:
		s.Is, s.E, s.L = api.XIf, m.expression(), inner(1)
		if m.below(2) == 0 {
			s.M = inner(1)
			if !m.wildly() {
				s.L = []api.Stmt{{Is: api.XBlock, L: s.L}}
			}
		}
	}
}

func (m *maker) variable() string {
	if m.wildly() || len(m.vars) == 0 {
		return m.one("a b k l z f")
	}
	return m.vars[m.below(len(m.vars))]
}

func (m *maker) expression() []api.Expr { return []api.Expr{m.part(1 + m.below(3))} }

func (m *maker) part(high int) api.Expr {
	e := api.Expr{Line: m.line()}
	sort := m.below(8)
	if high == 1 {
		sort = m.below(4)
	}
	switch {
	case sort < 2 || sort < 4 && len(m.vars) == 0:
		e.Is, e.K = api.EInt, api.KInt+m.below(4)
		e.V = int64(m.below(1 << 20))
	case sort < 4:
		e.Is, e.Name = api.EVar, m.variable()
	case sort == 4:
		e.Is, e.K, e.L = api.ECast, m.kind(), []api.Expr{m.part(high - 1)}
	case sort == 5:
		e.Is, e.L = api.ECond, []api.Expr{m.part(high - 1), m.part(high - 1), m.part(high - 1)}
	case sort == 6:
		return m.call(m.wildly())
	default:
		e.Is, e.Op, e.L = api.ETwo, api.OAdd+m.below(14), []api.Expr{m.part(high - 1), m.part(high - 1)}
	}
	return e
}

// call is one of a function that is known, or a number if there is none that gives what is asked.
func (m *maker) call(void bool) api.Expr {
	for range 5 {
		k := append(slices.Clone(m.known), m.f)[m.below(len(m.known)+1)]
		if k.Sig.Ret == api.KVoid && !void || len(k.Sig.Args) > 8 {
			continue
		}
		e := api.Expr{Is: api.ECall, Name: k.Sig.Name, Line: m.line()}
		n := len(k.Sig.Args)
		if m.wildly() {
			n = m.below(5)
		}
		for range n {
			e.L = append(e.L, m.part(1))
		}
		return e
	}
	if void {
		return api.Expr{Is: api.ECall, Name: m.f.Sig.Name, L: slices.Repeat([]api.Expr{number(1)}, min(8, len(m.f.Sig.Args)))}
	}
	return number(5)
}

// varied is a text that says the same as a unit's, some of it in other words.
func (m *maker) varied(s string) string {
	for _, change := range [][2]string{{"( void )", "( )"}, {" { }", " ;"}, {"unsigned int ", "int unsigned "}, {"unsigned int ", "unsigned "}, {"short ", "signed short int "}, {"; long ", "; long int long "}} {
		switch m.below(4) {
		case 0:
			s = strings.Replace(s, change[0], change[1], 1+m.below(3))
		case 1:
			if change[1] != " ;" { // a body of nothing is none
				s = strings.ReplaceAll(s, change[0], change[1])
			}
		}
	}
	return s
}

// words are those of a unit, on lines of their own.
func (m *maker) words(t testing.TB) []api.Word {
	u := m.unit()
	l := words(t, m.varied(bareText(u)))
	for i := range l {
		l[i].Line = 3*i - 40
	}
	return l
}

// spoilt are words of which one is another one, gone, or new; or some of which stand at another place.
func (m *maker) spoilt(l []api.Word) []api.Word {
	some := []api.Word{{}, {Kind: api.WName, S: "if"}, {Kind: api.WText, S: "t"}, {Kind: api.WInt, T: api.KInt}, {Kind: api.WName, S: "q"}, {Kind: api.WKey, S: "=", Line: 4}, {Kind: api.WInt, V: 1 << 40, T: api.KInt}}
	for s := range strings.FieldsSeq("; { } ( ) , = == + ? : - #") {
		some = append(some, api.Word{Kind: api.WPunct, S: s})
	}
	for s := range strings.FieldsSeq("if else while return break continue extern void int char long unsigned struct") {
		some = append(some, api.Word{Kind: api.WKey, S: s})
	}
	other := some[m.below(len(some))]
	other.Line = 7000
	i := m.below(len(l) + 1)
	switch m.below(5) {
	case 0:
		return slices.Insert(l, i, other)
	case 1:
		return l[:i]
	case 2:
		j := m.below(len(l) + 1)
		return slices.Concat(l[:i], l[j:])
	}
	if i == len(l) {
		return append(l, other)
	}
	if m.below(2) == 0 {
		return slices.Delete(l, i, i+1)
	}
	l[i] = other
	return l
}

// changed is a unit of which one part, at any place, is changed in one field.
func (m *maker) changed(u api.Unit) api.Unit {
	u = copied(u)
	f := &u.L[m.below(len(u.L))]
	if len(f.Body) == 0 || m.below(8) == 0 {
		switch m.below(6) {
		case 0:
			f.Sig.Name = m.one("int f 5 q_")
		case 1:
			f.Sig.Ret = m.below(12) - 1
		case 2:
			f.Sig.Args = append(f.Sig.Args, api.Var{Name: m.one("if a z"), K: m.below(11) - 1})
		case 3:
			f.Has = !f.Has
		case 4:
			f.Body = append(f.Body, api.Stmt{Is: m.below(11)})
		case 5:
			u.L = append(u.L, slices.Repeat([]api.Func{{Sig: api.Sig{Name: "n"}}}, 36+m.below(8)-len(u.L))...)
		}
		return u
	}
	s := &f.Body[m.below(len(f.Body))]
	for len(s.L) > 0 && m.below(3) > 0 {
		s = &s.L[m.below(len(s.L))]
	}
	m.change(s)
	return u
}

func (m *maker) change(s *api.Stmt) {
	switch m.below(9) {
	case 0:
		s.Is = m.below(11)
	case 1:
		s.Name = m.one("a k int 5")
	case 2:
		s.K = m.below(11) - 1
	case 3:
		s.E = append(s.E, m.part(2))
	case 4:
		s.E = []api.Expr{{Is: m.below(11)}}
	case 5:
		s.L = append(s.L, api.Stmt{Is: m.below(11)})
	case 6:
		s.L, s.M = s.M, s.L
	case 7:
		s.L, s.E = s.L[:len(s.L)/2], s.E[:len(s.E)/2]
	case 8:
		for range 26 + m.below(5) {
			*s = block(*s)
		}
	}
}

// P14.1: words of all sorts, right ones and spoilt ones, against the second reading; what is parsed is what was said.
func TestAnyParse(t *testing.T) {
	told := map[api.Errno]int{}
	for seed := range 6000 {
		m := maker{seed: uint64(seed)}
		l := m.words(t)
		wantBareParse(t, l)
		for range 6 {
			spoilt := slices.Clone(l)
			for range 1 + m.below(2) {
				spoilt = m.spoilt(spoilt)
			}
			wantBareParse(t, spoilt)
			_, errno, _ := unit.Parse(spoilt)
			told[errno]++
		}
	}
	if told[api.OK] < 1000 || told[api.ErrUnit] < 5000 || told[api.ErrExpr] < 3000 {
		t.Errorf("told %v", told)
	}
}

// P14.1: all short lists of words, behind some beginnings, against the second reading.
func TestEveryShortText(t *testing.T) {
	var some []api.Word
	for _, s := range []string{"x", "1", "(", ")", "{", "}", ";", "=", ",", "+", "int", "char", "void", "extern", "if", "else", "while", "return", "break"} {
		some = append(some, lexed(t, s)...)
	}
	lists := [][]api.Word{nil}
	for begin, end := 0, 1; len(lists) < 100000; begin, end = end, len(lists) {
		for _, l := range lists[begin:end] {
			for _, w := range some {
				w.Line = 1001 + len(l)
				lists = append(lists, append(slices.Clone(l), w))
			}
		}
	}
	told := map[api.Errno]int{}
	for _, s := range []string{"", "int f", "void f ( int x", "void f ( ) {", "void f ( ) { if ( x ) ; else {", "void f ( ) { while ( x )"} {
		ahead := words(t, s)
		for _, l := range lists {
			l = slices.Concat(ahead, l)
			want, errno, where := bareParse(l)
			u, got, line := unit.Parse(l)
			if got != errno || line != where || !unit.Same(u, want) {
				t.Errorf("%s: %s, %d, %d; want %s, %d, %d", show(l), show(u), got, line, show(want), errno, where)
			}
			told[got]++
		}
	}
	if told[api.OK] < 50 || told[api.ErrUnit] < 100000 || told[api.ErrExpr] < 100000 {
		t.Errorf("told %v", told)
	}
}

// P14.1 to P14.4: units of all sorts, right ones and such with one part changed, against the second reading.
func TestAnyUnit(t *testing.T) {
	told := map[api.Errno]int{}
	for seed := range 10000 {
		m := maker{seed: uint64(seed)}
		u := m.unit()
		wantBareCheck(t, u, told)
		l, errno := unit.Words(u)
		if errno == api.OK {
			if !slices.Equal(l, bareWords(bareText(u))) {
				t.Errorf("%s: %s", show(u), show(l))
			}
			wantParsed(t, l, u)
		}
		v := m.changed(u)
		wantBareCheck(t, v, told)
		alike := bareSame(u, v)
		if unit.Same(u, v) != alike || unit.Same(v, u) != alike || !unit.Same(moved(v, 3), v) {
			t.Errorf("%s and %s: %v", show(u), show(v), !alike)
		}
	}
	if told[api.OK] < 3000 || told[api.ErrArg] < 3000 || told[api.ErrName] < 500 || told[api.ErrCalls] < 300 || told[api.ErrUnit] < 100 {
		t.Errorf("told %v", told)
	}
}

// wantBareCheck holds Check, and whether there are Words, against the second reading.
func wantBareCheck(t *testing.T, u api.Unit, told map[api.Errno]int) {
	t.Helper()
	want, errno, where := bareCheck(u)
	got, f, line := unit.Check(u)
	if !same(got, want) || f != errno || line != where {
		t.Errorf("%s: %s, %d, %d; want %s, %d, %d", show(u), show(got), f, line, show(want), errno, where)
	}
	l, g := unit.Words(u)
	if (g == api.OK) != (errno != api.ErrArg) || g != api.OK && (g != api.ErrArg || len(l) > 0) {
		t.Errorf("%s: %s, %d", show(u), show(l), g)
	}
	told[f]++
	if f == api.OK {
		wantFollows(t, got)
	}
}

// P14.4: each expression of what Check tells has the kind that its place asks.
func wantFollows(t *testing.T, u api.Unit) {
	t.Helper()
	for _, f := range u.L {
		vars := map[string]int{}
		for _, a := range f.Sig.Args {
			vars[a.Name] = a.K
		}
		lists := 0
		for _, p := range bareFlat(f.Body, nil, false, &lists) {
			if p.s.Is == api.XDecl {
				vars[p.s.Name] = p.s.K
			}
			for _, e := range p.s.E {
				k := e.K
				ok := kind.Size(k) > 0
				switch p.s.Is {
				case api.XDecl, api.XSet:
					ok = k == vars[p.s.Name]
				case api.XReturn:
					ok = k == f.Sig.Ret
				case api.XCall:
					ok = e.Is == api.ECall && (ok || k == api.KVoid)
				}
				if !ok {
					t.Errorf("%s: %s is of %d", show(u), show(*p.s), k)
				}
			}
		}
	}
}

// R3, R4: what is handed in is as it was, its spare room too, and is not kept; what is answered is new.
func TestMemory(t *testing.T) {
	checked := 0
	for seed := range 600 {
		m := maker{seed: uint64(seed)}
		u := m.unit()
		given, kept := roomy(u), copied(u)
		l, errno := unit.Words(given)
		told, f, _ := unit.Check(given)
		if !same(given, kept) || !roomLeft(given) {
			t.Errorf("%s is written into: %s", show(kept), show(given))
		}
		if errno != api.OK {
			continue
		}
		words := append(slices.Clone(l), api.Word{S: "room"}, api.Word{S: "room"})
		keptWords := slices.Clone(words)
		parsed, _, _ := unit.Parse(words[:len(l)])
		if !slices.Equal(words, keptWords) {
			t.Errorf("%s: written into", show(keptWords))
		}
		wantApart(t, given, told, parsed)
		toldCopy, parsedCopy, wordsCopy := copied(told), copied(parsed), slices.Clone(l)
		spoil(given)
		clear(words)
		if !same(told, toldCopy) || !same(parsed, parsedCopy) || !slices.Equal(l, wordsCopy) {
			t.Errorf("%s is kept", show(kept))
		}
		spoil(told)
		spoil(parsed)
		clear(l[:cap(l)])
		again, _, _ := unit.Check(kept)
		parsedAgain, _, _ := unit.Parse(keptWords[:len(keptWords)-2])
		wordsAgain, _ := unit.Words(kept)
		if !same(again, toldCopy) || !same(parsedAgain, parsedCopy) || !slices.Equal(wordsAgain, wordsCopy) {
			t.Errorf("%s: another time: %s, %s, %s", show(kept), show(again), show(parsedAgain), show(wordsAgain))
		}
		if f == api.OK {
			checked++
		}
	}
	if checked < 200 {
		t.Errorf("%d are checked", checked)
	}
}

// room is a list with spare room, which is marked.
func room[T any](l []T, mark T, made func(T) T) []T {
	told := append(each(l, made), mark, mark)
	return told[:len(l)]
}

// roomy is a unit whose lists have spare room.
func roomy(u api.Unit) api.Unit {
	u.L = room(u.L, api.Func{Line: 77}, func(f api.Func) api.Func {
		f.Sig.Args = room(f.Sig.Args, api.Var{K: 77}, func(a api.Var) api.Var { return a })
		f.Body = roomyBody(f.Body)
		return f
	})
	return u
}

func roomyBody(l []api.Stmt) []api.Stmt {
	return room(l, api.Stmt{Is: 77}, func(s api.Stmt) api.Stmt {
		s.E, s.L, s.M = room(s.E, api.Expr{Is: 77}, roomyExpr), roomyBody(s.L), roomyBody(s.M)
		return s
	})
}

func roomyExpr(e api.Expr) api.Expr {
	e.L = room(e.L, api.Expr{Is: 77}, roomyExpr)
	return e
}

// lists hands on all lists of a unit, with all that they have room for.
func lists(u api.Unit, funcs func([]api.Func, int), vars func([]api.Var, int), stmts func([]api.Stmt, int), exprs func([]api.Expr, int)) {
	var ofExprs func(l []api.Expr)
	ofExprs = func(l []api.Expr) {
		for i := range l {
			ofExprs(l[i].L)
		}
		exprs(l[:cap(l)], len(l))
	}
	var ofStmts func(l []api.Stmt)
	ofStmts = func(l []api.Stmt) {
		for i := range l {
			ofExprs(l[i].E)
			ofStmts(l[i].L)
			ofStmts(l[i].M)
		}
		stmts(l[:cap(l)], len(l))
	}
	for i := range u.L {
		vars(u.L[i].Sig.Args[:cap(u.L[i].Sig.Args)], len(u.L[i].Sig.Args))
		ofStmts(u.L[i].Body)
	}
	funcs(u.L[:cap(u.L)], len(u.L))
}

func roomLeft(u api.Unit) bool {
	left := true
	lists(u, func(l []api.Func, n int) { left = left && l[n].Line == 77 && l[n+1].Line == 77 }, func(l []api.Var, n int) { left = left && l[n].K == 77 && l[n+1].K == 77 },
		func(l []api.Stmt, n int) { left = left && l[n].Is == 77 && l[n+1].Is == 77 }, func(l []api.Expr, n int) { left = left && l[n].Is == 77 && l[n+1].Is == 77 })
	return left
}

// spoil writes into all lists of a unit, and into their spare room.
func spoil(u api.Unit) {
	lists(u, func(l []api.Func, n int) { clear(l) }, func(l []api.Var, n int) { clear(l) }, func(l []api.Stmt, n int) { clear(l) }, func(l []api.Expr, n int) { clear(l) })
}

// wantApart looks for memory that two lists within units share.
func wantApart(t *testing.T, l ...api.Unit) {
	t.Helper()
	seen := map[any]bool{}
	mark := func(place any) {
		if seen[place] {
			t.Errorf("%s: lists share memory", show(l))
		}
		seen[place] = true
	}
	for _, u := range l {
		lists(u, func(l []api.Func, n int) {
			for i := range l {
				mark(&l[i])
			}
		}, func(l []api.Var, n int) {
			for i := range l {
				mark(&l[i])
			}
		}, func(l []api.Stmt, n int) {
			for i := range l {
				mark(&l[i])
			}
		}, func(l []api.Expr, n int) {
			for i := range l {
				mark(&l[i])
			}
		})
	}
}

// R1, R5: as many words as may be, of all that may be within each other.
func TestGreatWords(t *testing.T) {
	ahead := words(t, "void f ( int x ) {")
	for _, s := range []string{"{", "if (", "if ( x )", "if ( x ) ; else", "while ( x )", "while ( x ) {", "while (", "return", "return (", "int", "int x =", "x = (", "x = - ", "f ( f ,", ";", "x ;", "x = x ;", "int x ;", "}", "else", ")", "} void f ( ) {", "} void f ( int x ,", "extern", "void", "if ( x ) if ( x ) ; else"} {
		n := len(strings.Fields(s))
		for _, end := range []string{"", "; }", "x", "}", "else ;"} {
			l := slices.Concat(ahead, words(t, strings.Repeat(s+" ", 4800/n)+end+strings.Repeat(" }", 100)))
			wantBareParse(t, l)
			l = slices.Concat(ahead, words(t, strings.Repeat(s+" ", 2400/n)+end+strings.Repeat(" }", 2500)))
			wantBareParse(t, l)
		}
	}
}

// R1, R5: units of many parts, as deep as may be, and of long names.
func TestGreat(t *testing.T) {
	for _, round := range []func(api.Stmt) api.Stmt{
		func(s api.Stmt) api.Stmt { return block(s) },
		func(s api.Stmt) api.Stmt { return while(x, s) },
		func(s api.Stmt) api.Stmt { return when(x, s) },
		func(s api.Stmt) api.Stmt { return when(x, leave, s) },
	} {
		deep := leave
		for range 1<<16 - 4 {
			deep = round(deep)
		}
		l, errno := unit.Words(body(deep))
		_, f, line := unit.Check(body(deep))
		if len(l) > 0 || errno != api.ErrArg || f != api.ErrArg || line != 0 || !unit.Same(body(deep), copied(body(deep))) || unit.Same(body(deep), body(deep.L[0])) {
			t.Errorf("very deep: %d words, %d, %d", len(l), errno, f)
		}
	}
	names := make([]api.Stmt, 3000)
	for i := range names {
		names[i] = decl(api.KChar, strings.Repeat("v", i+1), number(1))
	}
	names = append(names, set(names[2999].Name, variable(names[1500].Name)))
	told, errno, _ := unit.Check(body(names...))
	if errno != api.OK || told.L[0].Body[3000].E[0].K != api.KChar || told.L[0].Body[2999].E[0].Is != api.ECast {
		t.Errorf("many names: %d", errno)
	}
	wide := body(slices.Repeat([]api.Stmt{set("x", x)}, 1<<18)...)
	l, errno := unit.Words(wide)
	if _, f, _ := unit.Check(wide); f != api.OK || errno != api.OK || len(l) != 8+4<<18 {
		t.Errorf("very wide: %d words, %d, %d", len(l), errno, f)
	}
	many := api.Unit{L: make([]api.Func, 1<<20)}
	wantNoUnit(t, many)
	long := strings.Repeat("x", 1<<24)
	if _, errno, _ := unit.Check(unitOf(with(head(api.KVoid, long), decl(api.KInt, long), set(long, variable(long)), do(call(long))))); errno != api.OK {
		t.Errorf("a long name: %d", errno)
	}
	params := head(api.KVoid, "f", make([]api.Var, 1<<18)...)
	wantNoUnit(t, unitOf(params))
	for i := range params.Sig.Args {
		params.Sig.Args[i] = param(api.KInt, "a")
	}
	if _, errno, line := unit.Check(moved(unitOf(params), 6)); errno != api.ErrCalls || line != 6 {
		t.Errorf("many parameters: %d, %d", errno, line)
	}
}

// FuzzAny holds all calls on made things against the second reading.
func FuzzAny(f *testing.F) {
	f.Fuzz(func(t *testing.T, seed uint64) {
		m := maker{seed: seed}
		l := m.words(t)
		wantBareParse(t, l)
		wantBareParse(t, m.spoilt(m.spoilt(l)))
		n := maker{seed: seed >> 1}
		told := map[api.Errno]int{}
		u := n.unit()
		wantBareCheck(t, u, told)
		u = n.changed(u)
		wantBareCheck(t, u, told)
		for _, f := range u.L {
			if l, errno := unit.Words(api.Unit{L: []api.Func{f}}); errno == api.OK {
				wantParsed(t, l, api.Unit{L: []api.Func{f}})
			}
		}
		if e := n.part(3); !expr.Right(e) {
			t.Errorf("%s is not right", show(e))
		}
	})
}

package run_test

import (
	"fmt"
	"math"
	"slices"
	"strings"
	"testing"

	"burin/api"
	"burin/kind"
	"burin/run"
	"burin/unit"
)

// maker makes texts of units, and runs of them, the same ones each time.
type maker struct {
	seed   uint64
	known  []api.Sig
	own    api.Sig
	seen   []string // variables that may be read
	set    []string // those of them that may be set
	fresh  int
	loops  int
	nested int
}

func (m *maker) below(n int) int {
	m.seed = m.seed*6364136223846793005 + 1442695040888963407
	return int(m.seed >> 33 % uint64(n))
}

func (m *maker) one(s string) string {
	l := strings.Fields(s)
	return l[m.below(len(l))]
}

func (m *maker) kind() int {
	if m.below(2) == 0 {
		return api.KInt
	}
	return api.KChar + m.below(8)
}

// unit is a text whose function f has a body.
func (m *maker) unit() string {
	var l []string
	for _, name := range []string{"e", "v", "g", "h", "f"}[m.below(3):] {
		l = append(l, m.function(name))
		if m.below(6) == 0 {
			l = append(l, m.head(m.own)+";")
		}
	}
	return strings.Join(l, "\n")
}

func (m *maker) head(s api.Sig) string {
	var l []string
	for _, a := range s.Args {
		l = append(l, kind.Name(a.K)+" "+a.Name)
	}
	return kind.Name(s.Ret) + " " + s.Name + "(" + strings.Join(l, ", ") + ")"
}

func (m *maker) function(name string) string {
	m.own = api.Sig{Name: name, Ret: m.kind()}
	if name == "v" || m.below(8) == 0 {
		m.own.Ret = api.KVoid
	}
	m.seen, m.set, m.fresh = nil, nil, 0
	for i := range m.below(4) {
		a := api.Var{Name: string(rune('a' + i)), K: m.kind()}
		m.own.Args = append(m.own.Args, a)
		m.seen, m.set = append(m.seen, a.Name), append(m.set, a.Name)
	}
	ahead := m.head(m.own)
	if name < "f" || name == "v" || name != "f" && m.below(4) == 0 {
		m.known = append(m.known, m.own)
		return ahead + ";"
	}
	told := ahead + " " + m.block(1+m.below(5))
	if m.own.Ret != api.KVoid && m.below(8) > 0 {
		told = strings.TrimSuffix(told, "}") + m.leave() + " }"
	}
	m.known = append(m.known, m.own)
	return told
}

func (m *maker) leave() string {
	if m.own.Ret == api.KVoid {
		return "return ;"
	}
	return "return " + m.expression() + ";"
}

// block is a block of some statements, whose variables aren't there behind it.
func (m *maker) block(n int) string {
	seen, set := len(m.seen), len(m.set)
	told := "{"
	for range n {
		told += " " + m.statement()
	}
	m.seen, m.set = m.seen[:seen], m.set[:set]
	return told + " }"
}

func (m *maker) name() string {
	m.fresh++
	return "x" + fmt.Sprint(m.fresh)
}

func (m *maker) statement() string {
	sort := m.below(20)
	if m.nested > 3 {
		sort = m.below(12)
	}
	m.nested++
	defer func() { m.nested-- }()
	switch {
	case sort < 4:
		return m.declaration()
	case sort < 7 && len(m.set) > 0:
		return m.set[m.below(len(m.set))] + " = " + m.expression() + ";"
	case sort < 10:
		return m.call(true) + ";"
	case sort == 10:
		if m.loops > 0 {
			return m.one("break; continue;")
		}
		return ";"
	case sort == 11:
		if m.below(3) == 0 {
			return m.leave()
		}
		return "{ }"
	case sort == 12:
		return m.block(m.below(3))
	case sort < 16:
		told := "if (" + m.expression() + ") " + m.block(1+m.below(2))
		if m.below(2) == 0 {
			told += " else " + m.block(1+m.below(2))
		}
		return told
	case sort == 16:
		return "if (" + m.expression() + ") " + m.inner()
	case sort == 17:
		m.loops++
		defer func() { m.loops-- }()
		return "while (" + m.expression() + ") " + m.inner()
	}
	return m.counted()
}

// inner is a statement that stands alone.
func (m *maker) inner() string {
	return strings.TrimSuffix(strings.TrimPrefix(m.block(1), "{ "), " }")
}

func (m *maker) declaration() string {
	name := m.name()
	told := kind.Name(m.kind()) + " " + name
	if m.below(6) > 0 {
		told += " = " + m.expression()
	}
	m.seen, m.set = append(m.seen, name), append(m.set, name)
	return told + ";"
}

// counted is an XWhile that comes to its end, unless something within it does not.
func (m *maker) counted() string {
	name := m.name()
	m.loops++
	m.seen = append(m.seen, name)
	told := fmt.Sprintf("{ int %s = 0; while (%s < %d) { %s = %s + 1; %s } }", name, name, m.below(4), name, name, m.block(1+m.below(3)))
	m.seen = m.seen[:len(m.seen)-1]
	m.loops--
	return told
}

func (m *maker) expression() string { return m.part(1 + m.below(3)) }

func (m *maker) part(high int) string {
	sort := m.below(12)
	if high == 0 {
		sort = m.below(4)
	}
	switch {
	case sort < 3 && len(m.seen) > 0:
		return m.seen[m.below(len(m.seen))]
	case sort < 4:
		return m.number()
	case sort == 4:
		return "(" + kind.Name(m.kind()) + ")" + m.part(0)
	case sort == 5:
		return "(" + m.part(high-1) + " ? " + m.part(high-1) + " : " + m.part(high-1) + ")"
	case sort == 6:
		return m.one("-( ~( !(") + m.part(high-1) + ")"
	case sort < 9:
		return m.call(false)
	case sort == 9:
		return "(" + m.part(high-1) + m.one(" && || ") + m.part(high-1) + ")"
	case sort == 10 && m.below(4) > 0:
		switch m.below(2) {
		case 0:
			return "(" + m.part(high-1) + m.one("/ %") + "(" + m.part(high-1) + " | 1))"
		default:
			return "((" + m.part(high-1) + " & 255)" + m.one("<< >>") + "(" + m.part(high-1) + " & 7))"
		}
	}
	return "(" + m.part(high-1) + " " + m.one("+ + + - - - * / % << >> & ^ | < <= == != > >=") + " " + m.part(high-1) + ")"
}

func (m *maker) number() string {
	switch m.below(12) {
	case 0:
		return m.one("2147483647 2147483648 4294967295u 9223372036854775807 18446744073709551615ul 65535 127 255")
	case 1:
		return fmt.Sprint(m.below(1<<30)) + m.one("u l ul")
	}
	return fmt.Sprint(m.below(9))
}

// call is one of a function that is there, or what stands for it if there is none; of itself seldom, and then mostly under a condition.
func (m *maker) call(alone bool) string {
	var l []api.Sig
	for _, s := range m.known {
		if alone || s.Ret != api.KVoid {
			l = append(l, s)
		}
	}
	own := len(l) == 0 && alone || m.below(8) == 0 && (alone || m.own.Ret != api.KVoid)
	switch {
	case own && alone:
		return m.own.Name + m.args(m.own)
	case own && m.below(4) > 0 && len(m.seen) > 0:
		return "(" + m.seen[0] + " % 3 == 1 ? " + m.own.Name + m.args(m.own) + " : 1)"
	case own:
		return m.own.Name + m.args(m.own)
	case len(l) == 0:
		return m.number()
	}
	s := l[m.below(len(l))]
	return s.Name + m.args(s)
}

func (m *maker) args(s api.Sig) string {
	var l []string
	for range s.Args {
		l = append(l, m.part(m.below(2)))
	}
	return "(" + strings.Join(l, ", ") + ")"
}

// values are a function's arguments.
func (m *maker) values(vars []api.Var) []int64 {
	var l []int64
	for _, v := range vars {
		n := []int64{0, 1, 2, 3, int64(m.below(300)), -1, int64(m.below(math.MaxInt32)) * int64(m.below(math.MaxInt32)), math.MaxInt64}[m.below(8)]
		n, _ = kind.To(n, v.K)
		l = append(l, n)
	}
	return l
}

func (m *maker) script() []int64 {
	var l []int64
	for range m.below(12) {
		l = append(l, int64(m.below(8)-2)*[]int64{1, 1, 1, 77777777777}[m.below(4)])
	}
	return l
}

func (m *maker) steps() int {
	return []int{m.below(40), 100 + m.below(100), 3000}[m.below(3)]
}

// made is a run: a unit, with arguments of its f.
type made struct {
	text         string
	u            api.Unit
	args, script []int64
	steps        int
}

func (m *maker) run(t testing.TB) made {
	t.Helper()
	s := m.unit()
	return made{s, read(t, s), m.values(m.own.Args), m.script(), m.steps()}
}

// wantBare holds a run against the second reading.
func wantBare(t *testing.T, r made) api.Out {
	t.Helper()
	got := run.Run(r.u, "f", r.args, r.script, r.steps)
	want := bareRun(r.u, "f", r.args, r.script, r.steps)
	if said(got) != said(want) || got.Code != want.Code {
		t.Errorf("%.1500s\n%v, script %v, %d steps: %.300s; want %.300s", r.text, r.args, r.script, r.steps, said(got), said(want))
	}
	return got
}

// P15.1: runs of all sorts, against the second reading.
func TestAnyRun(t *testing.T) {
	told, events := map[api.Errno]int{}, 0
	for seed := range 6000 {
		m := maker{seed: uint64(seed)}
		o := wantBare(t, m.run(t))
		told[o.Code]++
		events += len(o.Events)
	}
	if told[api.OK] < 1200 || told[api.ErrUndef] < 600 || told[api.ErrLimit] < 600 || len(told) != 3 || events < 12000 {
		t.Errorf("told %v, %d events", told, events)
	}
}

// enough is more steps than most of the runs take that come to an end.
const enough = 3000

// P15.2: more steps change nothing of a run that came to its end; with fewer ones than it takes it tells fewer events of the same.
func TestAnyMore(t *testing.T) {
	held := 0
	for seed := range 2500 {
		m := maker{seed: uint64(seed) << 20}
		r := m.run(t)
		o := run.Run(r.u, "f", r.args, r.script, enough)
		if o.Code == api.ErrLimit {
			continue
		}
		held++
		for _, steps := range []int{enough + 1, 2 * enough, api.MaxRun} {
			if got := said(run.Run(r.u, "f", r.args, r.script, steps)); got != said(o) {
				t.Errorf("%.1500s\n%v, %d steps: %.300s; want %.300s", r.text, r.args, steps, got, said(o))
			}
		}
		for steps := range min(least(t, r.u, r.args, r.script, enough), 30) {
			wantPart(t, r, steps, o)
		}
	}
	if held < 1000 {
		t.Errorf("%d held", held)
	}
}

// wantPart holds a run of too few steps against the whole one.
func wantPart(t *testing.T, r made, steps int, o api.Out) {
	t.Helper()
	got := run.Run(r.u, "f", r.args, r.script, steps)
	n := min(len(o.Events), len(got.Events))
	if want := said(api.Out{Code: api.ErrLimit, Events: o.Events[:n]}); said(got) != want {
		t.Errorf("%.1500s\n%v, %d steps: %.300s; want %.300s", r.text, r.args, steps, said(got), want)
	}
}

// P15.2: the script's numbers that weren't asked for change nothing.
func TestAnyScript(t *testing.T) {
	held := 0
	for seed := range 2500 {
		m := maker{seed: uint64(seed) << 23}
		r := m.run(t)
		o := run.Run(r.u, "f", r.args, r.script, 300)
		asked := 0
		for _, e := range o.Events {
			if function(r.u, e.Name).Sig.Ret != api.KVoid {
				asked++
			}
		}
		if asked >= len(r.script) {
			continue
		}
		held++
		for _, more := range [][]int64{nil, {0}, {1, 2, 3}, slices.Repeat([]int64{-7}, 100)} {
			script := append(slices.Clone(r.script[:asked]), more...)
			if got := said(run.Run(r.u, "f", r.args, script, 300)); got != said(o) {
				t.Errorf("%.1500s\n%v, script %v: %.300s; want %.300s", r.text, r.args, script, got, said(o))
			}
		}
	}
	if held < 600 {
		t.Errorf("%d held", held)
	}
}

func function(u api.Unit, name string) api.Func {
	return u.L[slices.IndexFunc(u.L, func(f api.Func) bool { return f.Sig.Name == name })]
}

// P15.2: blocks round statements, and names of variables, make no difference.
func TestAnyForm(t *testing.T) {
	held := 0
	for seed := range 2500 {
		m := maker{seed: uint64(seed) << 21}
		r := m.run(t)
		o := run.Run(r.u, "f", r.args, r.script, enough)
		if o.Code == api.ErrLimit {
			continue
		}
		held++
		for _, u := range []api.Unit{m.blocked(r.u), m.renamed(r.u), m.renamed(m.blocked(r.u))} {
			if got := said(run.Run(u, "f", r.args, r.script, api.MaxRun)); got != said(o) {
				t.Errorf("%.1500s\n%v, in another form: %.300s; want %.300s", r.text, r.args, got, said(o))
			}
		}
	}
	if held < 1000 {
		t.Errorf("%d held", held)
	}
}

// blocked is a unit with blocks round some statements, and round what stands behind some, as far as it may be so high.
func (m *maker) blocked(u api.Unit) api.Unit {
	u = copied(u)
	for i := range u.L {
		body := m.blocks(copied(u).L[i].Body)
		if high(body) <= api.MaxHigh {
			u.L[i].Body = body
		}
	}
	return u
}

func high(l []api.Stmt) int {
	most := 0
	for _, s := range l {
		most = max(most, 1+high(s.L), 1+high(s.M))
	}
	return most
}

func (m *maker) blocks(l []api.Stmt) []api.Stmt {
	for i := range l {
		s := &l[i]
		s.L, s.M = m.blocks(s.L), m.blocks(s.M)
		if s.Is != api.XDecl && m.below(3) == 0 {
			*s = api.Stmt{Is: api.XBlock, L: []api.Stmt{*s}}
		}
	}
	if len(l) > 1 && m.below(4) == 0 {
		i := m.below(len(l))
		l = append(l[:i:i], api.Stmt{Is: api.XBlock, L: l[i:]})
	}
	return l
}

// renamed is a unit whose variables have other names, each function's its own, some of them functions' names.
func (m *maker) renamed(u api.Unit) api.Unit {
	u = copied(u)
	for i := range u.L {
		names, ahead := map[string]string{}, m.one("f_ e g x1 a")
		other := func(name *string) {
			if names[*name] == "" {
				names[*name] = ahead + strings.Repeat(ahead, len(names))
			}
			*name = names[*name]
		}
		f := &u.L[i]
		for j := range f.Sig.Args {
			other(&f.Sig.Args[j].Name)
		}
		renameBody(f.Body, other)
	}
	return u
}

func renameBody(l []api.Stmt, other func(*string)) {
	for i := range l {
		s := &l[i]
		if s.Name != "" {
			other(&s.Name)
		}
		renameExprs(s.E, other)
		renameBody(s.L, other)
		renameBody(s.M, other)
	}
}

func renameExprs(l []api.Expr, other func(*string)) {
	for i := range l {
		if l[i].Is == api.EVar {
			other(&l[i].Name)
		}
		renameExprs(l[i].L, other)
	}
}

// copied is a unit that shares no memory.
func copied(u api.Unit) api.Unit { return roomy(u, 0) }

// roomy is a unit that shares no memory, whose lists have so much spare room, which is marked.
func roomy(u api.Unit, n int) api.Unit {
	u.L = room(u.L, n, func(f *api.Func) {
		f.Sig.Args = room(f.Sig.Args, n, func(*api.Var) {})
		f.Body = roomyBody(f.Body, n)
	})
	return u
}

func roomyBody(l []api.Stmt, n int) []api.Stmt {
	return room(l, n, func(s *api.Stmt) {
		s.E, s.L, s.M = roomyExprs(s.E, n), roomyBody(s.L, n), roomyBody(s.M, n)
	})
}

func roomyExprs(l []api.Expr, n int) []api.Expr {
	return room(l, n, func(e *api.Expr) { e.L = roomyExprs(e.L, n) })
}

func room[T any](l []T, n int, deep func(*T)) []T {
	told := make([]T, len(l)+n)
	copy(told, l)
	for i := range l {
		deep(&told[i])
	}
	return told[:len(l)]
}

// whole shows a unit with all its lists' spare room.
func whole(u api.Unit) string {
	var b strings.Builder
	fmt.Fprintf(&b, "%+v", u.L[:cap(u.L)])
	for _, f := range u.L {
		fmt.Fprintf(&b, "%+v", f.Sig.Args[:cap(f.Sig.Args)])
		wholeBody(&b, f.Body)
	}
	return b.String()
}

func wholeBody(b *strings.Builder, l []api.Stmt) {
	fmt.Fprintf(b, "%+v", l[:cap(l)])
	for _, s := range l {
		wholeExprs(b, s.E)
		wholeBody(b, s.L)
		wholeBody(b, s.M)
	}
}

func wholeExprs(b *strings.Builder, l []api.Expr) {
	fmt.Fprintf(b, "%+v", l[:cap(l)])
	for _, e := range l {
		wholeExprs(b, e.L)
	}
}

// R3, R4: what is handed in is as it was, its spare room too, and is not kept; what is answered is new.
func TestMemory(t *testing.T) {
	events := 0
	for seed := range 250 {
		m := maker{seed: uint64(seed)}
		r := m.run(t)
		u := roomy(r.u, 2)
		kept := whole(u)
		args, script := append(r.args, 71, 72), append(r.script, 73, 74)
		keptArgs, keptScript := slices.Clone(args), slices.Clone(script)
		ask := func() api.Out {
			return run.Run(u, "f", args[:len(r.args)], script[:len(r.script)], 500)
		}
		o := ask()
		want := said(o)
		events += len(o.Events)
		if whole(u) != kept || !slices.Equal(args, keptArgs) || !slices.Equal(script, keptScript) {
			t.Errorf("%.1500s\n%v, %v: written into", r.text, args, script)
		}
		wantApart(t, o, args, script)
		again := ask()
		clear(args)
		clear(script)
		spoil(u)
		if said(o) != want {
			t.Errorf("%.1500s\nis kept", r.text)
		}
		clear(o.Events[:cap(o.Events)])
		if said(again) != want {
			t.Errorf("%.1500s\nanother time: %s; want %s", r.text, said(again), want)
		}
	}
	if events < 250 {
		t.Errorf("%d events", events)
	}
}

func spoil(u api.Unit) {
	for i := range u.L {
		spoilBody(u.L[i].Body)
		clear(u.L[i].Sig.Args)
	}
	clear(u.L)
}

func spoilBody(l []api.Stmt) {
	for _, s := range l {
		clear(s.E)
		spoilBody(s.L)
		spoilBody(s.M)
	}
	clear(l)
}

// wantApart looks for memory that events' arguments share with each other, or with what was handed in.
func wantApart(t *testing.T, o api.Out, given ...[]int64) {
	t.Helper()
	seen := map[*int64]bool{}
	for _, e := range o.Events {
		given = append(given, e.Args)
	}
	for _, l := range given {
		for i := range l[:cap(l)] {
			place := &l[:cap(l)][i]
			if seen[place] {
				t.Errorf("%.300s: lists share memory", said(o))
			}
			seen[place] = true
		}
	}
}

// R1: units of which one part, at any place, is changed, right or not, and what is handed in besides, against the second reading.
func TestAnyChanged(t *testing.T) {
	told := map[api.Errno]int{}
	for seed := range 6000 {
		m := maker{seed: uint64(seed) << 22}
		r := m.run(t)
		r.u = m.changed(r.u)
		switch m.below(8) {
		case 0:
			r.args = append(r.args, 1)
		case 1:
			r.args = append(r.args[:len(r.args)/2:len(r.args)/2], 1<<m.below(64))
		case 2:
			r.steps = []int{-1, math.MinInt, api.MaxRun + 1, math.MaxInt}[m.below(4)]
		}
		told[wantBare(t, r).Code]++
	}
	if told[api.OK] < 300 || told[api.ErrUndef] < 150 || told[api.ErrLimit] < 150 || told[api.ErrArg] < 900 || told[api.ErrName] < 90 || told[api.ErrCalls] < 30 {
		t.Errorf("told %v", told)
	}
}

func (m *maker) changed(u api.Unit) api.Unit {
	u = copied(u)
	f := &u.L[m.below(len(u.L))]
	if len(f.Body) == 0 || m.below(10) == 0 {
		switch m.below(6) {
		case 0:
			f.Sig.Name = m.one("int f 5 e q_")
		case 1:
			f.Sig.Ret = m.below(12) - 1
		case 2:
			f.Sig.Args = append(f.Sig.Args, api.Var{Name: m.one("if a z"), K: m.below(11) - 1})
		case 3:
			f.Has = !f.Has
		case 4:
			f.Body = append(f.Body, api.Stmt{Is: m.below(11)})
		case 5:
			u.L = u.L[:len(u.L)-1]
		}
		return u
	}
	s := &f.Body[m.below(len(f.Body))]
	for len(s.L) > 0 && m.below(3) > 0 {
		s = &s.L[m.below(len(s.L))]
	}
	if len(s.E) == 0 || m.below(4) == 0 {
		m.change(s)
		return u
	}
	e := &s.E[0]
	for len(e.L) > 0 && m.below(4) > 0 {
		e = &e.L[m.below(len(e.L))]
	}
	m.changePart(e)
	return u
}

func (m *maker) change(s *api.Stmt) {
	switch m.below(7) {
	case 0:
		s.Is = m.below(11)
	case 1:
		s.Name = m.one("a x1 x2 int 5")
	case 2:
		s.K = m.below(11) - 1
	case 3:
		s.E = s.E[:0]
	case 4:
		s.L, s.M = s.M, s.L
	case 5:
		s.L = append(s.L, api.Stmt{Is: 7 + m.below(3)})
	case 6:
		*s = api.Stmt{Is: api.XBlock, L: []api.Stmt{*s, *s}}
	}
}

func (m *maker) changePart(e *api.Expr) {
	switch m.below(7) {
	case 0:
		e.Is = m.below(11)
	case 1:
		e.Op = m.below(19)
	case 2:
		e.K = m.below(10)
	case 3:
		e.V = -e.V
	case 4:
		e.Name = m.one("a b x1 f g e")
	case 5:
		slices.Reverse(e.L)
	case 6:
		*e = api.Expr{Is: api.EInt, V: int64(m.below(3)), K: api.KInt}
	}
}

// R1: units of anything at all come to Check's error.
func TestAnything(t *testing.T) {
	for seed := range 20000 {
		m := maker{seed: uint64(seed)}
		u := m.anything()
		if _, errno, _ := unit.Check(u); errno != api.OK {
			wantOut(t, run.Run(u, "f", []int64{1}, nil, 100), api.Out{Code: errno})
		}
	}
}

func (m *maker) anything() api.Unit {
	var u api.Unit
	for range m.below(4) {
		f := api.Func{Sig: api.Sig{Name: m.one("f g int"), Ret: m.below(11) - 1}, Has: m.below(4) > 0}
		for range m.below(2) {
			f.Sig.Args = append(f.Sig.Args, api.Var{Name: m.one("a b if"), K: m.below(11) - 1})
		}
		f.Body = m.anyStmts(3)
		u.L = append(u.L, f)
	}
	return u
}

func (m *maker) anyStmts(high int) []api.Stmt {
	var l []api.Stmt
	for range m.below(high) {
		l = append(l, api.Stmt{Is: m.below(12) - 1, Name: m.one("a b f"), K: m.below(11) - 1, E: m.anyExprs(3), L: m.anyStmts(high - 1), M: m.anyStmts(high - 1), Line: m.below(9) - 4})
	}
	return l
}

func (m *maker) anyExprs(high int) []api.Expr {
	var l []api.Expr
	for range m.below(high) {
		l = append(l, api.Expr{Is: m.below(12) - 1, Op: m.below(20) - 1, K: m.below(11) - 1, V: int64(m.below(9) - 4), Name: m.one("a b f"), L: m.anyExprs(high - 1)})
	}
	return l
}

// R1, R5: as many steps as may be, with as many events; as deep as may be, in calls, statements and expressions at once; wide and long ones.
func TestGreat(t *testing.T) {
	u := read(t, "int e(int a, int b, int c, int d, int e, int f, int g, int h); void f(int x) { while (1) e(x, x, x, x, x, x, x, x); }")
	script := make([]int64, 1<<20)
	for i := range script {
		script[i] = int64(i)
	}
	o := run.Run(u, "f", []int64{5}, script, api.MaxRun)
	if last := len(o.Events) - 1; o.Code != api.ErrLimit || last != 333332-1 || o.Events[last].V != int64(last) || !slices.Equal(o.Events[last].Args, slices.Repeat([]int64{5}, 8)) {
		t.Errorf("%d events, %d", len(o.Events), o.Code)
	}
	wantDeep(t)
	wide := "void f(long x) {" + strings.Repeat(" x = x + 1;", 600) + " }"
	u = read(t, wide)
	u.L[0].Body = slices.Repeat(u.L[0].Body, 1500)
	if o := run.Run(u, "f", []int64{0}, nil, api.MaxRun); o.Code != api.OK {
		t.Errorf("wide: %d", o.Code)
	}
	long := strings.Repeat("x", 1<<20)
	u = read(t, "int e(int a); int f(int a) { int b = e(a); return b; }")
	u.L[0].Sig.Name, u.L[1].Body[0].E[0].Name, u.L[1].Body[0].Name, u.L[1].Body[1].E[0].Name = long, long, long, long
	o = run.Run(u, "f", []int64{3}, []int64{4}, 100)
	if o.V != 4 || len(o.Events) != 1 || o.Events[0].Name != long {
		t.Errorf("long: %d, %d", o.Code, o.V)
	}
	o = run.Run(api.Unit{L: make([]api.Func, 1<<20)}, "f", nil, nil, 1)
	wantOut(t, o, api.Out{Code: api.ErrArg})
}

// wantDeep runs a unit of the greatest height, whose calls of itself are at the lowest place.
func wantDeep(t *testing.T) {
	t.Helper()
	parsed := read(t, "int e(int a); int f(int n) { n = (n > 1 ? f(n - 1) : e(n)) + 1; return n; }")
	u := copied(parsed)
	body := u.L[1].Body
	for range 55 {
		body[0].E[0] = api.Expr{Is: api.EOne, Op: api.ONeg, L: []api.Expr{body[0].E[0]}}
	}
	for range 29 {
		body[0] = api.Stmt{Is: api.XBlock, L: []api.Stmt{body[0]}}
	}
	for _, n := range []int64{1, 2, 30, 31} {
		wantBare(t, made{"the deepest one", u, []int64{n}, []int64{1000}, api.MaxRun})
	}
	if _, errno, _ := unit.Check(u); errno != api.OK {
		t.Errorf("too deep: %d", errno)
	}
}

// FuzzAny holds made runs, as they are and changed, against the second reading.
func FuzzAny(f *testing.F) {
	f.Fuzz(func(t *testing.T, seed uint64) {
		m := maker{seed: seed}
		r := m.run(t)
		wantBare(t, r)
		r.u = m.changed(r.u)
		wantBare(t, r)
	})
}

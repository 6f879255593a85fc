package unit_test

import (
	"fmt"
	"math"
	"reflect"
	"slices"
	"strings"

	"burin/api"
	"burin/expr"
	"burin/kind"
	"burin/lex"
)

// A second reading of the chapter, for tests to hold the first one against: words are read without recursion, by a list of what is still to be read; what a unit must have stands in a table, and an `else` belongs where its words are read to; a statement's variables are sought among all statements ahead of it; words are lexed from a text.

const bareKindWords = " char short int long signed unsigned "

const bareKeyWords = bareKindWords + " void if else while return break continue struct union extern "

func bareListed(list, s string) bool {
	return s != "" && !strings.Contains(s, " ") && strings.Contains(list, " "+s+" ")
}

// bareAt is a word as far as a unit may have it: a sign or a key word, `NAME` for a name; empty for others, and behind the last one.
func bareAt(l []api.Word, i int) string {
	if i >= len(l) || !lex.Right(l[i]) {
		return ""
	}
	switch l[i].Kind {
	case api.WKey, api.WPunct:
		return l[i].S
	case api.WName:
		return "NAME"
	}
	return ""
}

// bareReader has what is still to be read, the next one last, and what is read only in part.
type bareReader struct {
	l     []api.Word
	at    int
	todo  []string
	funcs []api.Func
	lists [][]api.Stmt
	open  []api.Stmt
	errno api.Errno
	line  int
}

func (r *bareReader) then(s string) {
	l := strings.Fields(s)
	slices.Reverse(l)
	r.todo = append(r.todo, l...)
}

func (r *bareReader) begin(is int, s string) {
	r.open = append(r.open, api.Stmt{Is: is, Line: r.l[r.at].Line})
	r.then(s)
}

func (r *bareReader) function() *api.Func { return &r.funcs[len(r.funcs)-1] }

func (r *bareReader) statement() *api.Stmt { return &r.open[len(r.open)-1] }

func (r *bareReader) list() []api.Stmt {
	last := len(r.lists) - 1
	l := r.lists[last]
	r.lists = r.lists[:last]
	return l
}

func (r *bareReader) wrong() {
	r.errno = api.ErrUnit
	if r.at < len(r.l) {
		r.line = r.l[r.at].Line
	}
}

func (r *bareReader) kind() int {
	var said []string
	for ; bareListed(bareKindWords, bareAt(r.l, r.at)); r.at++ {
		said = append(said, r.l[r.at].S)
	}
	k, errno := kind.Of(said)
	if errno != api.OK {
		r.wrong()
	}
	return k
}

func (r *bareReader) name() (string, int) {
	if bareAt(r.l, r.at) != "NAME" {
		r.wrong()
		return "", 0
	}
	w := r.l[r.at]
	r.at++
	return w.S, w.Line
}

// step reads what is next to be read.
func (r *bareReader) step() {
	last := len(r.todo) - 1
	what := r.todo[last]
	r.todo = r.todo[:last]
	next := bareAt(r.l, r.at)
	switch what {
	case "unit":
		if r.at < len(r.l) {
			r.funcs = append(r.funcs, api.Func{})
			r.then("function counted unit")
		}
	case "function":
		r.then("ret fname ( params ) tail")
		if next == "extern" {
			r.todo[len(r.todo)-6] = ";"
			r.at++
		}
	case "ret":
		if next == "void" {
			r.at++
		} else {
			r.function().Sig.Ret = r.kind()
		}
	case "fname":
		r.function().Sig.Name, r.function().Line = r.name()
	case "params":
		if next == "void" {
			r.at++
		} else if next != ")" {
			r.then("param more")
		}
	case "param":
		r.function().Sig.Args = append(r.function().Sig.Args, api.Var{K: r.kind()})
		r.then("pname")
	case "pname":
		l := r.function().Sig.Args
		l[len(l)-1].Name, _ = r.name()
	case "more":
		if next == "," {
			r.at++
			r.then("param more")
		}
	case "tail":
		if next == "{" {
			r.then("{ list items } body")
		} else {
			r.then(";")
		}
	case "body":
		f := r.function()
		f.Has, f.Body = true, r.list()
		if bareHigh(f.Body) > 30 {
			r.errno, r.line = api.ErrDeep, f.Line
		}
	case "counted":
		if len(r.funcs) > 40 {
			r.errno, r.line = api.ErrUnit, r.function().Line
		}
	default:
		r.within(what, next)
	}
}

// within reads what stands within a function.
func (r *bareReader) within(what, next string) {
	switch what {
	case "list":
		r.lists = append(r.lists, nil)
	case "items":
		if next != "}" {
			r.then("S items")
		}
	case "S":
		r.choose(next)
	case "L":
		r.statement().L = r.list()
	case "M":
		r.statement().M = r.list()
	case "end":
		last := len(r.lists) - 1
		r.lists[last] = append(r.lists[last], *r.statement())
		r.open = r.open[:len(r.open)-1]
	case "K":
		r.statement().K = r.kind()
	case "N":
		r.statement().Name, _ = r.name()
	case "init":
		if next == "=" {
			r.then("= E")
		}
	case "E?":
		if next != ";" {
			r.then("E")
		}
	case "else?":
		if next == "else" {
			r.then("else list S M")
		}
	case "E":
		e, at, errno, line := expr.Parse(r.l, r.at)
		r.statement().E, r.at, r.errno, r.line = []api.Expr{e}, at, errno, line
	default:
		if next != what {
			r.wrong()
		}
		r.at++
	}
}

func (r *bareReader) choose(next string) {
	switch {
	case r.at == len(r.l):
		r.wrong()
	case next == "{":
		r.begin(api.XBlock, "{ list items } L end")
	case next == ";":
		r.begin(api.XBlock, "; end")
	case bareListed(bareKindWords, next):
		r.begin(api.XDecl, "K N init ; end")
	case next == "NAME" && bareAt(r.l, r.at+1) == "=":
		r.begin(api.XSet, "N = E ; end")
	case next == "if":
		r.begin(api.XIf, "if ( E ) list S L else? end")
	case next == "while":
		r.begin(api.XWhile, "while ( E ) list S L end")
	case next == "return":
		r.begin(api.XReturn, "return E? ; end")
	case next == "break":
		r.begin(api.XBreak, "break ; end")
	case next == "continue":
		r.begin(api.XContinue, "continue ; end")
	default:
		r.begin(api.XCall, "E ; end")
	}
}

// bareRead is Parse of as many words as there are.
func bareRead(l []api.Word) (api.Unit, api.Errno, int) {
	r := bareReader{l: l, todo: []string{"unit"}}
	for len(r.todo) > 0 && r.errno == api.OK {
		r.step()
	}
	if r.errno != api.OK {
		return api.Unit{}, r.errno, r.line
	}
	return api.Unit{L: r.funcs}, api.OK, 0
}

func bareParse(l []api.Word) (api.Unit, api.Errno, int) {
	if len(l) > 5000 {
		return api.Unit{}, api.ErrArg, 0
	}
	return bareRead(l)
}

func bareHigh(l []api.Stmt) int {
	high := 0
	for _, s := range l {
		high = max(high, 1+max(bareHigh(s.L), bareHigh(s.M)))
	}
	return high
}

// copied is a unit that shares no memory, of which empty lists are nil.
func copied(u api.Unit) api.Unit {
	return api.Unit{L: each(u.L, func(f api.Func) api.Func {
		f.Sig.Args = each(f.Sig.Args, func(a api.Var) api.Var { return a })
		f.Body = copiedBody(f.Body)
		return f
	})}
}

func copiedBody(l []api.Stmt) []api.Stmt {
	return each(l, func(s api.Stmt) api.Stmt {
		s.E, s.L, s.M = each(s.E, copiedExpr), copiedBody(s.L), copiedBody(s.M)
		return s
	})
}

func copiedExpr(e api.Expr) api.Expr {
	e.L = each(e.L, copiedExpr)
	return e
}

// each is a new list of what is made of each one.
func each[T any](l []T, made func(T) T) []T {
	var told []T
	for _, v := range l {
		told = append(told, made(v))
	}
	return told
}

// moved is a unit of which everything stands on a line.
func moved(u api.Unit, line int) api.Unit {
	u = copied(u)
	for i := range u.L {
		u.L[i].Line = line
		moveBody(u.L[i].Body, line)
	}
	return u
}

func moveBody(l []api.Stmt, line int) {
	for i := range l {
		l[i].Line = line
		moveExprs(l[i].E, line)
		moveBody(l[i].L, line)
		moveBody(l[i].M, line)
	}
}

func moveExprs(l []api.Expr, line int) {
	for i := range l {
		l[i].Line = line
		moveExprs(l[i].L, line)
	}
}

// same tells whether units are alike, Lines too; bareSame, without.
func same(a, b api.Unit) bool { return reflect.DeepEqual(copied(a), copied(b)) }

func bareSame(a, b api.Unit) bool { return same(moved(a, 0), moved(b, 0)) }

// bareForms say of each statement what is named, and the least and the most of E, L and M.
var bareForms = map[int]struct {
	named string
	l     [6]int
}{
	api.XDecl: {"NK", [6]int{0, 1, 0, 0, 0, 0}}, api.XSet: {"N", [6]int{1, 1, 0, 0, 0, 0}}, api.XCall: {"", [6]int{1, 1, 0, 0, 0, 0}},
	api.XIf: {"", [6]int{1, 1, 1, 1, 0, 1}}, api.XWhile: {"", [6]int{1, 1, 1, 1, 0, 0}}, api.XReturn: {"", [6]int{0, 1, 0, 0, 0, 0}},
	api.XBreak: {"", [6]int{}}, api.XContinue: {"", [6]int{}}, api.XBlock: {"", [6]int{0, 0, 0, math.MaxInt, 0, 0}},
}

func bareName(s string) bool {
	w := []api.Word{{Kind: api.WName, S: s}}
	return bareAt(w, 0) == "NAME"
}

func bareKind(k int) bool { return k >= api.KChar && k <= api.KULong }

// bareForm tells whether each of a list's statements has what it must have.
func bareForm(l []api.Stmt) bool {
	for _, s := range l {
		form, there := bareForms[s.Is]
		if !there || !bareForm(s.L) || !bareForm(s.M) || slices.ContainsFunc(s.E, func(e api.Expr) bool { return !expr.Right(e) }) {
			return false
		}
		for i, n := range []int{len(s.E), len(s.L), len(s.M)} {
			if n < form.l[2*i] || n > form.l[2*i+1] {
				return false
			}
		}
		if strings.Contains(form.named, "N") != bareName(s.Name) || s.Name != "" && !bareName(s.Name) {
			return false
		}
		if strings.Contains(form.named, "K") != bareKind(s.K) || s.K != 0 && !bareKind(s.K) {
			return false
		}
	}
	return true
}

// bareRight tells whether a unit is one that words say: those that it would be told by are read as it.
func bareRight(u api.Unit) bool {
	if len(u.L) > 40 {
		return false
	}
	for _, f := range u.L {
		wrongVar := func(v api.Var) bool { return !bareName(v.Name) || !bareKind(v.K) }
		if !bareName(f.Sig.Name) || f.Sig.Ret != 0 && !bareKind(f.Sig.Ret) || slices.ContainsFunc(f.Sig.Args, wrongVar) || bareHigh(f.Body) > 30 || !bareForm(f.Body) {
			return false
		}
	}
	back, errno, _ := bareRead(bareWords(bareText(u)))
	return errno == api.OK && bareSame(back, u)
}

// bareText is a unit's text, if all that it has is right.
func bareText(u api.Unit) string {
	var l []string
	for _, f := range u.L {
		var params []string
		for _, a := range f.Sig.Args {
			params = append(params, kind.Name(a.K)+" "+a.Name)
		}
		if len(params) == 0 {
			params = []string{"void"}
		}
		body := ";"
		if f.Has || len(f.Body) > 0 {
			body = bareBlock(f.Body)
		}
		l = append(l, fmt.Sprintf("%s %s ( %s ) %s", kind.Name(f.Sig.Ret), f.Sig.Name, strings.Join(params, " , "), body))
	}
	return strings.Join(l, " ")
}

func bareBlock(l []api.Stmt) string { return "{ " + bareStmts(l) + "}" }

func bareStmts(l []api.Stmt) string {
	told := ""
	for _, s := range l {
		told += bareStmt(s) + " "
	}
	return told
}

func bareStmt(s api.Stmt) string {
	e := ""
	if len(s.E) > 0 {
		l, _ := expr.Words(s.E[0])
		e, _ = lex.Show(l)
	}
	switch s.Is {
	case api.XDecl:
		if e != "" {
			e = "= " + e
		}
		return kind.Name(s.K) + " " + s.Name + " " + e + " ;"
	case api.XSet:
		return s.Name + " = " + e + " ;"
	case api.XCall:
		return e + " ;"
	case api.XIf:
		told := "if ( " + e + " ) " + bareStmts(s.L)
		if len(s.M) > 0 {
			told += "else " + bareStmts(s.M)
		}
		return told
	case api.XWhile:
		return "while ( " + e + " ) " + bareStmts(s.L)
	case api.XReturn:
		return "return " + e + " ;"
	case api.XBreak:
		return "break ;"
	case api.XContinue:
		return "continue ;"
	}
	return bareBlock(s.L)
}

// barePlace is a statement with the numbers of all lists round it, its own one last.
type barePlace struct {
	s     *api.Stmt
	lists []int
	loop  bool
}

func bareFlat(l []api.Stmt, round []int, loop bool, lists *int) []barePlace {
	*lists++
	own := append(slices.Clone(round), *lists)
	var told []barePlace
	for i := range l {
		s := &l[i]
		inner := loop || s.Is == api.XWhile
		told = append(told, barePlace{s, own, loop})
		told = append(told, bareFlat(s.L, own, inner, lists)...)
		told = append(told, bareFlat(s.M, own, inner, lists)...)
	}
	return told
}

// bareThere are the variables that are there at one of a function's places.
func bareThere(f api.Func, l []barePlace, i int) []api.Var {
	vars := slices.Clone(f.Sig.Args)
	for _, p := range l[:i] {
		if p.s.Is == api.XDecl && slices.Contains(l[i].lists, p.lists[len(p.lists)-1]) {
			vars = append(vars, api.Var{Name: p.s.Name, K: p.s.K})
		}
	}
	return vars
}

type bareFault struct {
	errno api.Errno
	line  int
}

// bareHead is what is wrong with a function itself, in order.
func bareHead(u api.Unit, at int) []bareFault {
	f := u.L[at]
	var l []bareFault
	wrong := func(errno api.Errno, is bool) {
		if is {
			l = append(l, bareFault{errno, f.Line})
		}
	}
	kinds := func(s api.Sig) []int {
		l := []int{s.Ret}
		for _, a := range s.Args {
			l = append(l, a.K)
		}
		return l
	}
	wrong(api.ErrCalls, len(f.Sig.Args) > 8)
	bodies := 0
	for _, k := range u.L[:at] {
		if k.Sig.Name == f.Sig.Name {
			wrong(api.ErrCalls, !slices.Equal(kinds(k.Sig), kinds(f.Sig)))
			if k.Has && f.Has {
				bodies++
			}
		}
	}
	wrong(api.ErrName, bodies > 0)
	for i, a := range f.Sig.Args {
		for _, b := range f.Sig.Args[:i] {
			wrong(api.ErrName, a.Name == b.Name)
		}
	}
	return l
}

// bareAll is what is wrong with a function, in order; its kinds are told in it.
func bareAll(u api.Unit, at int) []bareFault {
	f := u.L[at]
	l := bareHead(u, at)
	var sigs []api.Sig
	for _, k := range u.L[:at+1] {
		sigs = append(sigs, k.Sig)
	}
	lists := 0
	flat := bareFlat(f.Body, nil, false, &lists)
	for i, p := range flat {
		s := p.s
		wrong := func(errno api.Errno, is bool) {
			if is {
				l = append(l, bareFault{errno, s.Line})
			}
		}
		named := func(v api.Var) bool { return v.Name == s.Name }
		again := slices.ContainsFunc(flat[:i], func(p barePlace) bool { return p.s.Is == api.XDecl && p.s.Name == s.Name })
		wrong(api.ErrName, s.Is == api.XDecl && (again || slices.ContainsFunc(f.Sig.Args, named)))
		there := bareThere(f, flat, i)
		for i, e := range s.E {
			told, errno, line := expr.Typed(e, there, sigs)
			if errno != api.OK {
				l = append(l, bareFault{errno, line})
			}
			wrong(api.ErrCalls, errno == api.OK && told.K == 0 && s.Is != api.XCall)
			wrong(api.ErrUnit, s.Is == api.XCall && e.Is != api.ECall)
			s.E[i] = bareCast(told, bareAsked(f, s, there))
		}
		wrong(api.ErrName, s.Is == api.XSet && !slices.ContainsFunc(there, named))
		wrong(api.ErrUnit, (s.Is == api.XBreak || s.Is == api.XContinue) && !p.loop)
		wrong(api.ErrCalls, s.Is == api.XReturn && len(s.E) == 0 && f.Sig.Ret != 0)
		wrong(api.ErrCalls, s.Is == api.XReturn && len(s.E) == 1 && f.Sig.Ret == 0)
	}
	return l
}

// bareAsked is the kind that a statement asks its expression for, or 0.
func bareAsked(f api.Func, s *api.Stmt, there []api.Var) int {
	switch s.Is {
	case api.XDecl:
		return s.K
	case api.XReturn:
		return f.Sig.Ret
	case api.XSet:
		for _, v := range there {
			if v.Name == s.Name {
				return v.K
			}
		}
	}
	return 0
}

func bareCast(e api.Expr, k int) api.Expr {
	if k == 0 || k == e.K {
		return e
	}
	return api.Expr{Is: api.ECast, K: k, L: []api.Expr{e}, Line: e.Line}
}

func bareCheck(u api.Unit) (api.Unit, api.Errno, int) {
	if !bareRight(u) {
		return api.Unit{}, api.ErrArg, 0
	}
	u = copied(u)
	for i := range u.L {
		if l := bareAll(u, i); len(l) > 0 {
			return api.Unit{}, l[0].errno, l[0].line
		}
	}
	return u, api.OK, 0
}

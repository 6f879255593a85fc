package expr_test

import (
	"fmt"
	"math"
	"regexp"
	"slices"
	"strconv"
	"strings"

	"burin/api"
	"burin/arith"
	"burin/kind"
	"burin/lex"
	"burin/token"
)

// A second reading of the chapter, for tests to hold the first one against: words are told apart from left to right, without recursion, and then parted at the sign that binds least; right forms stand in a table; words are lexed from a text; kinds are asked for from above.

const bareKindWords = " char short int long signed unsigned "

const bareKeyWords = bareKindWords + " void if else while return break continue struct union extern "

// bareLevels are the signs between two, from those that bind most.
var bareLevels = []string{" * / % ", " + - ", " << >> ", " < <= > >= ", " == != ", " & ", " ^ ", " | ", " && ", " || "}

var bareSigns = map[string]int{
	"+": api.OAdd, "-": api.OSub, "*": api.OMul, "/": api.ODiv, "%": api.OMod, "<<": api.OShl, ">>": api.OShr, "&": api.OAnd, "^": api.OXor, "|": api.OOr,
	"<": api.OLess, "<=": api.OLeq, "==": api.OEq, "!=": api.ONeq,
}

var bareSignsOfOne = map[string]int{"-": api.ONeg, "~": api.OFlip, "!": api.ONot}

var bareName = regexp.MustCompile(`^[A-Za-z_][A-Za-z_0-9]*$`)

func bareListed(list, s string) bool {
	return s != "" && !strings.Contains(s, " ") && strings.Contains(list, " "+s+" ")
}

func bareLevel(sign string) int {
	return slices.IndexFunc(bareLevels, func(l string) bool { return bareListed(l, sign) })
}

func bareNumber(v int64, k int) bool {
	switch k {
	case api.KInt:
		return v >= -128 && v <= math.MaxInt32
	case api.KUInt:
		return v >= 0 && v <= math.MaxUint32
	case api.KLong:
		return v >= 0
	}
	return k == api.KULong
}

// bareAt is a word as far as an expression may have it: a sign, a key word, `x` for a name, `1` for a number; empty for others, and behind the last one.
func bareAt(l []api.Word, i int) string {
	if i >= len(l) {
		return ""
	}
	switch w := l[i]; {
	case w.Kind == api.WInt && w.S == "" && bareNumber(w.V, w.T):
		return "1"
	case w.V != 0 || w.T != 0:
	case w.Kind == api.WName && bareName.MatchString(w.S) && !bareListed(bareKeyWords, w.S):
		return "x"
	case w.Kind == api.WKey && bareListed(bareKeyWords, w.S):
		return w.S
	case w.Kind == api.WPunct && (bareLevel(w.S) >= 0 || bareListed(" ~ ! ( ) , ? : ", w.S)):
		return w.S
	}
	return ""
}

// bareRoles is a letter for each word of the longest expression from a place on: `x` a number or a variable, `f` a function, `u` a sign ahead of one, `b` between two, `(` and `)` brackets, `[` and `]` a call's, `{` and `}` a cast's, `k` a kind's word, `?`, `:`, `,`. If there is none, it is told up to the word with which nothing can go on, and false.
func bareRoles(l []api.Word, from int) (string, bool) {
	var roles, open []byte
	asked := true // whether a part is asked for, or a sign behind one
	push := func(role byte) { roles, open = append(roles, role), append(open, role) }
	pop := func(role byte) { roles, open = append(roles, role), open[:len(open)-1] }
	for {
		i := from + len(roles)
		s, next := bareAt(l, i), bareAt(l, i+1)
		inner := byte(0)
		if len(open) > 0 {
			inner = open[len(open)-1]
		}
		switch {
		case asked && s == "x" && next == "(":
			roles = append(roles, 'f')
			push('[')
			if bareAt(l, i+2) == ")" {
				pop(']')
				asked = false
			}
		case asked && (s == "x" || s == "1"):
			roles, asked = append(roles, 'x'), false
		case asked && bareListed(" + - ~ ! ", s):
			roles = append(roles, 'u')
		case asked && s == "(" && bareListed(bareKindWords, next):
			cast, ok := bareCast(l[i:])
			roles = append(roles, cast...)
			if !ok {
				return string(roles), false
			}
		case asked && s == "(":
			push('(')
		case !asked && bareLevel(s) >= 0:
			roles, asked = append(roles, 'b'), true
		case !asked && s == "?":
			push('?')
			asked = true
		case !asked && s == ":" && inner == '?':
			pop(':')
			asked = true
		case !asked && s == "," && inner == '[':
			roles, asked = append(roles, ','), true
		case !asked && s == ")" && inner == '[':
			pop(']')
		case !asked && s == ")" && inner == '(':
			pop(')')
		default:
			return string(roles), !asked && len(open) == 0
		}
	}
}

func bareCast(l []api.Word) (string, bool) {
	n := 1
	for bareListed(bareKindWords, bareAt(l, n)) {
		n++
	}
	roles := "{" + strings.Repeat("k", n-1)
	if bareKind(l[1:n]) == 0 || bareAt(l, n) != ")" {
		return roles, false
	}
	return roles + "}", true
}

// bareKind is the kind whose name the words are, once `signed`, `int`, and what is said twice, are gone; or 0.
func bareKind(l []api.Word) int {
	n := map[string]int{}
	for _, w := range l {
		n[w.S]++
	}
	most := map[string]int{"char": 1, "short": 1, "long": 2, "int": 1}
	for s, times := range n {
		if most[s] > 0 && times > most[s] {
			return 0
		}
	}
	lengths := 0
	for _, s := range []string{"char", "short", "long"} {
		lengths += min(n[s], 1)
	}
	if n["signed"]+n["unsigned"] > 1 || lengths > 1 || n["char"] == 1 && n["int"] == 1 {
		return 0
	}
	name := "int"
	for _, s := range []string{"char", "short", "long"} {
		if n[s] > 0 {
			name = s
		}
	}
	if n["unsigned"] == 1 {
		name = "unsigned " + name
	}
	for k := api.KChar; k <= api.KULong; k++ {
		if kind.Name(k) == name {
			return k
		}
	}
	return 0
}

// bareParted are the places of letters that stand within no brackets.
func bareParted(roles string, letters string) []int {
	var l []int
	deep := 0
	for i := range len(roles) {
		switch {
		case strings.IndexByte(")]}", roles[i]) >= 0:
			deep--
		case strings.IndexByte("([{", roles[i]) >= 0:
			deep++
		case deep == 0 && strings.IndexByte(letters, roles[i]) >= 0:
			l = append(l, i)
		}
	}
	return l
}

// bareTree is the expression of words that are told apart.
func bareTree(l []api.Word, roles string) api.Expr {
	if marks := bareParted(roles, "?:"); len(marks) > 0 {
		first, second, inner := marks[0], 0, 0
		for _, i := range marks[1:] {
			if roles[i] == '?' {
				inner++
			} else if inner--; inner < 0 {
				second = i
				break
			}
		}
		return api.Expr{Is: api.ECond, Line: l[first].Line, L: []api.Expr{
			bareTree(l[:first], roles[:first]), bareTree(l[first+1:second], roles[first+1:second]), bareTree(l[second+1:], roles[second+1:]),
		}}
	}
	if signs := bareParted(roles, "b"); len(signs) > 0 {
		at := signs[0]
		for _, i := range signs {
			if bareLevel(l[i].S) >= bareLevel(l[at].S) {
				at = i
			}
		}
		return bareBoth(l[at], bareTree(l[:at], roles[:at]), bareTree(l[at+1:], roles[at+1:]))
	}
	return bareOne(l, roles)
}

func bareBoth(w api.Word, a, b api.Expr) api.Expr {
	l := []api.Expr{a, b}
	switch w.S {
	case "&&":
		return api.Expr{Is: api.EAnd, L: l, Line: w.Line}
	case "||":
		return api.Expr{Is: api.EOr, L: l, Line: w.Line}
	case ">", ">=":
		turned := api.Expr{Is: api.ETwo, Op: map[string]int{">": api.OLeq, ">=": api.OLess}[w.S], L: l, Line: w.Line}
		return api.Expr{Is: api.EOne, Op: api.ONot, L: []api.Expr{turned}, Line: w.Line}
	}
	return api.Expr{Is: api.ETwo, Op: bareSigns[w.S], L: l, Line: w.Line}
}

func bareOne(l []api.Word, roles string) api.Expr {
	last := len(l) - 1
	switch roles[0] {
	case 'u':
		if l[0].S == "+" {
			return bareTree(l[1:], roles[1:])
		}
		return api.Expr{Is: api.EOne, Op: bareSignsOfOne[l[0].S], L: []api.Expr{bareTree(l[1:], roles[1:])}, Line: l[0].Line}
	case '{':
		n := strings.IndexByte(roles, '}')
		return api.Expr{Is: api.ECast, K: bareKind(l[1:n]), L: []api.Expr{bareTree(l[n+1:], roles[n+1:])}, Line: l[0].Line}
	case '(':
		return bareTree(l[1:last], roles[1:last])
	case 'f':
		e := api.Expr{Is: api.ECall, Name: l[0].S, Line: l[0].Line}
		begin := 2
		for _, comma := range append(bareParted(roles[2:last], ","), last-2) {
			if last > 2 {
				e.L = append(e.L, bareTree(l[begin:2+comma], roles[begin:2+comma]))
			}
			begin = 2 + comma + 1
		}
		return e
	}
	if l[0].Kind == api.WName {
		return api.Expr{Is: api.EVar, Name: l[0].S, Line: l[0].Line}
	}
	return api.Expr{Is: api.EInt, K: l[0].T, V: l[0].V, Line: l[0].Line}
}

func bareHigh(e api.Expr) int {
	high := 0
	for _, part := range e.L {
		high = max(high, bareHigh(part))
	}
	return high + 1
}

// bareCrowded is the place of the function whose call of too many arguments ends first, or below 0.
func bareCrowded(roles string) int {
	var open, commas []int
	for i := range len(roles) {
		switch roles[i] {
		case '[', '(':
			open, commas = append(open, i), append(commas, 0)
		case ',':
			commas[len(commas)-1]++
		case ']', ')':
			last := len(open) - 1
			if commas[last] > 7 {
				return open[last] - 1
			}
			open, commas = open[:last], commas[:last]
		}
	}
	return -1
}

func bareParse(l []api.Word, from int) (api.Expr, int, api.Errno, int) {
	if from < 0 || from > len(l) || len(l) > 5000 {
		return api.Expr{}, 0, api.ErrArg, 0
	}
	roles, ok := bareRoles(l, from)
	end := from + len(roles)
	if !ok {
		line := 0
		if end < len(l) {
			line = l[end].Line
		}
		return api.Expr{}, 0, api.ErrExpr, line
	}
	e := bareTree(l[from:end], roles)
	if bareHigh(e) > 60 {
		return api.Expr{}, 0, api.ErrDeep, e.Line
	}
	if at := bareCrowded(roles); at >= 0 {
		return api.Expr{}, 0, api.ErrCalls, l[from+at].Line
	}
	return e, end, api.OK, 0
}

// bareForms say of each expression what is named, and how many parts it has.
var bareForms = map[int]struct {
	named       string
	least, most int
}{
	api.EInt: {"VK", 0, 0}, api.EVar: {"N", 0, 0}, api.EOne: {"O", 1, 1}, api.ETwo: {"O", 2, 2}, api.EAnd: {"", 2, 2}, api.EOr: {"", 2, 2},
	api.ECast: {"K", 1, 1}, api.ECall: {"N", 0, 8}, api.ECond: {"", 3, 3},
}

func bareRight(e api.Expr) bool {
	form, there := bareForms[e.Is]
	if !there || bareHigh(e) > 60 || len(e.L) < form.least || len(e.L) > form.most || slices.ContainsFunc(e.L, func(part api.Expr) bool { return !bareRight(part) }) {
		return false
	}
	for letter, zero := range map[string]bool{"V": e.V == 0, "K": e.K == 0, "N": e.Name == "", "O": e.Op == 0} {
		if !zero && !strings.Contains(form.named, letter) {
			return false
		}
	}
	switch e.Is {
	case api.EInt:
		return bareNumber(e.V, e.K)
	case api.EVar, api.ECall:
		return bareName.MatchString(e.Name) && !bareListed(bareKeyWords, e.Name)
	case api.EOne:
		return e.Op >= api.ONeg && e.Op <= api.ONot
	case api.ETwo:
		return e.Op >= api.OAdd && e.Op <= api.ONeq
	case api.ECast:
		return e.K >= api.KChar && e.K <= api.KULong
	}
	return true
}

// bareText is an expression's text, or what tells of one that is not right.
func bareText(e api.Expr) string {
	var l []any
	for _, part := range e.L {
		l = append(l, bareText(part))
	}
	sign := func(signs map[string]int) string {
		for s, op := range signs {
			if op == e.Op {
				return s
			}
		}
		return "@"
	}
	switch e.Is {
	case api.EInt:
		if e.K == api.KInt && e.V < 0 {
			return fmt.Sprintf(`'\%o'`, byte(e.V))
		}
		return strconv.FormatUint(uint64(e.V), 10) + map[int]string{api.KUInt: "u", api.KLong: "l", api.KULong: "ul"}[e.K]
	case api.EVar:
		return e.Name
	case api.EOne:
		return sign(bareSignsOfOne) + " " + fmt.Sprint(l...)
	case api.ETwo:
		return fmt.Sprintf("( %s "+strings.ReplaceAll(sign(bareSigns), "%", "%%")+" %s )", l...)
	case api.EAnd:
		return fmt.Sprintf("( %s && %s )", l...)
	case api.EOr:
		return fmt.Sprintf("( %s || %s )", l...)
	case api.ECast:
		return "( " + kind.Name(e.K) + " ) " + fmt.Sprint(l...)
	case api.ECall:
		return e.Name + " ( " + strings.TrimSuffix(fmt.Sprintf(strings.Repeat("%s , ", len(l)), l...), ", ") + " )"
	}
	return fmt.Sprintf("( %s ? %s : %s )", l...)
}

// bareWords are a text's words, of Line 0.
func bareWords(s string) []api.Word {
	toks, _, _ := token.Lex([]api.Line{{S: s}})
	l, errno, _, _ := lex.Words(toks)
	if errno != api.OK {
		panic("no words: " + s)
	}
	return l
}

// bareNames are the kinds of variables and the functions by their names.
type bareNames struct {
	vars map[string]int
	sigs map[string]api.Sig
}

func newBareNames(vars []api.Var, sigs []api.Sig) bareNames {
	n := bareNames{map[string]int{}, map[string]api.Sig{}}
	for _, v := range slices.Backward(vars) {
		n.vars[v.Name] = v.K
	}
	for _, s := range slices.Backward(sigs) {
		n.sigs[s.Name] = s
	}
	return n
}

// of is the kind of an expression in which nothing is wrong.
func (n bareNames) of(e api.Expr) int {
	k := 0
	switch e.Is {
	case api.EInt, api.ECast:
		k = e.K
	case api.EVar:
		k = n.vars[e.Name]
	case api.EOne:
		k, _ = arith.Result(e.Op, n.of(e.L[0]), 0)
	case api.ETwo:
		k, _ = arith.Result(e.Op, n.of(e.L[0]), n.of(e.L[1]))
	case api.EAnd, api.EOr:
		k = api.KInt
	case api.ECall:
		k = n.sigs[e.Name].Ret
	case api.ECond:
		k, _ = kind.Usual(n.of(e.L[1]), n.of(e.L[2]))
	}
	return k
}

// asked is an expression with its kinds, cast to the kind that its place asks, if that asks for one.
func (n bareNames) asked(e api.Expr, k int) api.Expr {
	own := n.of(e)
	told := api.Expr{Is: e.Is, Op: e.Op, V: e.V, Name: e.Name, K: own, Line: e.Line}
	for i, part := range e.L {
		ask := 0
		switch {
		case e.Is == api.ECall:
			ask = n.sigs[e.Name].Args[i].K
		case e.Is == api.ECond && i > 0:
			ask = own
		}
		told.L = append(told.L, n.asked(part, ask))
	}
	if k == 0 || k == own {
		return told
	}
	return api.Expr{Is: api.ECast, K: k, L: []api.Expr{told}, Line: e.Line}
}

// wrong is what is wrong with an expression itself, within another one or not.
func (n bareNames) wrong(e api.Expr, inner bool) api.Errno {
	noKind := func(k int) bool { return !slices.Contains([]int{1, 2, 3, 4, 5, 6, 7, 8}, k) }
	k, variable := n.vars[e.Name]
	sig, function := n.sigs[e.Name]
	switch {
	case e.Is == api.EVar && !variable, e.Is == api.ECall && !function:
		return api.ErrName
	case e.Is == api.EVar && noKind(k):
		return api.ErrCalls
	case e.Is != api.ECall:
		return api.OK
	case len(sig.Args) != len(e.L), noKind(sig.Ret) && (inner || sig.Ret != 0):
		return api.ErrCalls
	case slices.ContainsFunc(sig.Args, func(a api.Var) bool { return noKind(a.K) }):
		return api.ErrCalls
	}
	return api.OK
}

// bareParts are an expression's parts, each one behind its own, and it.
func bareParts(e api.Expr) []api.Expr {
	var l []api.Expr
	for _, part := range e.L {
		l = append(l, bareParts(part)...)
	}
	return append(l, e)
}

func bareTyped(e api.Expr, vars []api.Var, sigs []api.Sig) (api.Expr, api.Errno, int) {
	if !bareRight(e) {
		return api.Expr{}, api.ErrArg, 0
	}
	n := newBareNames(vars, sigs)
	l := bareParts(e)
	for i, part := range l {
		if errno := n.wrong(part, i < len(l)-1); errno != api.OK {
			return api.Expr{}, errno, part.Line
		}
	}
	return n.asked(e, 0), api.OK, 0
}

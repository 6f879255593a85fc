package macro_test

import (
	"fmt"
	"math"
	"reflect"
	"regexp"
	"slices"
	"strconv"
	"strings"
	"testing"

	"burin/api"
	"burin/macro"
	"burin/token"
)

// show keeps a failure of a long macro readable.
func show(m api.Macro) string { return fmt.Sprintf("%.500s", fmt.Sprintf("%+v", m)) }

// lex are a line's tokens, of a line with a number of its own.
func lex(t *testing.T, s string) []api.Tok {
	t.Helper()
	l, e, _ := token.Lex([]api.Line{{N: 7, S: s}})
	if e != api.OK {
		t.Fatalf("Lex(%.200q): %d", s, e)
	}
	return l
}

// body are tokens as a macro has them.
func body(t *testing.T, s string) []api.Tok {
	t.Helper()
	l := lex(t, s)
	for i := range l {
		l[i].Line, l[i].First = 0, false
	}
	return l
}

func parse(t *testing.T, s string) api.Macro {
	t.Helper()
	m, e := macro.Parse(lex(t, s))
	if e != api.OK {
		t.Fatalf("Parse(%.200q): %d", s, e)
	}
	return m
}

// equal is what Same should be, of right macros.
func equal(a, b api.Macro) bool {
	return a.Name == b.Name && a.Func == b.Func && a.More == b.More &&
		slices.Equal(a.Params, b.Params) && slices.Equal(a.Body, b.Body)
}

func empty(m api.Macro) bool { return reflect.ValueOf(m).IsZero() }

// names are n of them, no two alike.
func names(n int) []string {
	var l []string
	for i := range n {
		l = append(l, "p"+strconv.Itoa(i))
	}
	return l
}

// times is a text of so many tokens.
func times(n int) string { return strings.TrimSpace(strings.Repeat("+ ", n)) }

// wantShown holds P3.2 and P3.4 of a right macro.
func wantShown(t *testing.T, m api.Macro, want string) {
	t.Helper()
	got, e := macro.Show(m)
	if got != want || e != api.OK {
		t.Errorf("Show(%s) = %.300q, %d; want %.300q", show(m), got, e, want)
	}
	if again := parse(t, got); !macro.Same(m, again) || !equal(m, again) {
		t.Errorf("%.300q: %s; want %s", got, show(again), show(m))
	}
}

func wantWrong(t *testing.T, what string, m api.Macro) {
	t.Helper()
	if macro.Right(m) || macro.Same(m, m) {
		t.Errorf("%s: right: %s", what, show(m))
	}
	if s, e := macro.Show(m); s != "" || e != api.ErrArg {
		t.Errorf("%s: Show = %.200q, %d", what, s, e)
	}
	tab := macro.New()
	if e := tab.Define(m); e != api.ErrArg || len(tab.Names()) != 0 {
		t.Errorf("%s: Define = %d, %q", what, e, tab.Names())
	}
}

func wantRefused(t *testing.T, l []api.Tok) {
	t.Helper()
	if m, e := macro.Parse(l); e != api.ErrDefine || !empty(m) {
		t.Errorf("Parse(%.300s) = %s, %d", fmt.Sprintf("%+v", l), show(m), e)
	}
}

// P3.1, P3.2, P3.4: definitions, what they are, and how they are shown.
func TestParse(t *testing.T) {
	for s, want := range map[string]struct {
		macro api.Macro
		body  string
		shown string
	}{
		"X":                        {api.Macro{Name: "X"}, "", "X"},
		"  X  ":                    {api.Macro{Name: "X"}, "", "X"},
		"X 1 + 2":                  {api.Macro{Name: "X"}, "1 + 2", "X 1 + 2"},
		"X/**/1+2 // 3":            {api.Macro{Name: "X"}, "1+2", "X 1+2"},
		"X (a) a":                  {api.Macro{Name: "X"}, "(a) a", "X (a) a"},
		"X ( ":                     {api.Macro{Name: "X"}, "(", "X ("},
		"X/**/(a)":                 {api.Macro{Name: "X"}, "(a)", "X (a)"},
		"X a ## b":                 {api.Macro{Name: "X"}, "a ## b", "X a ## b"},
		"X #":                      {api.Macro{Name: "X"}, "#", "X #"},
		"X # b # ## #":             {api.Macro{Name: "X"}, "# b # ## #", "X # b # ## #"},
		"X X":                      {api.Macro{Name: "X"}, "X", "X X"},
		"X defined":                {api.Macro{Name: "X"}, "defined", "X defined"},
		"__VA_ARGS___ \\ @ '\\''":  {api.Macro{Name: "__VA_ARGS___"}, "\\ @ '\\''", "__VA_ARGS___ \\ @ '\\''"},
		"define \"a  b\"\"/*\"":    {api.Macro{Name: "define"}, "\"a  b\"\"/*\"", "define \"a  b\"\"/*\""},
		"F()":                      {api.Macro{Name: "F", Func: true}, "", "F()"},
		"F( )x":                    {api.Macro{Name: "F", Func: true}, "x", "F() x"},
		"F() ()":                   {api.Macro{Name: "F", Func: true}, "()", "F() ()"},
		"F()(":                     {api.Macro{Name: "F", Func: true}, "(", "F() ("},
		"F(a, b) a ## b":           {api.Macro{Name: "F", Func: true, Params: []string{"a", "b"}}, "a ## b", "F(a, b) a ## b"},
		"F( a ,b )a##b":            {api.Macro{Name: "F", Func: true, Params: []string{"a", "b"}}, "a##b", "F(a, b) a##b"},
		"F(a) # a":                 {api.Macro{Name: "F", Func: true, Params: []string{"a"}}, "# a", "F(a) # a"},
		"F(a)#a##a ## #a":          {api.Macro{Name: "F", Func: true, Params: []string{"a"}}, "#a##a ## #a", "F(a) #a##a ## #a"},
		"F(a, b, c) #c #a #b":      {api.Macro{Name: "F", Func: true, Params: []string{"a", "b", "c"}}, "#c #a #b", "F(a, b, c) #c #a #b"},
		"F(F, X) F":                {api.Macro{Name: "F", Func: true, Params: []string{"F", "X"}}, "F", "F(F, X) F"},
		"F(defined) # defined":     {api.Macro{Name: "F", Func: true, Params: []string{"defined"}}, "# defined", "F(defined) # defined"},
		"G(...) #__VA_ARGS__":      {api.Macro{Name: "G", Func: true, More: true}, "#__VA_ARGS__", "G(...) #__VA_ARGS__"},
		"G(...)":                   {api.Macro{Name: "G", Func: true, More: true}, "", "G(...)"},
		"G( ... )...":              {api.Macro{Name: "G", Func: true, More: true}, "...", "G(...) ..."},
		"H(a,...) a ##__VA_ARGS__": {api.Macro{Name: "H", Func: true, Params: []string{"a"}, More: true}, "a ##__VA_ARGS__", "H(a, ...) a ##__VA_ARGS__"},
		"H(a, b , ... ) # b":       {api.Macro{Name: "H", Func: true, Params: []string{"a", "b"}, More: true}, "# b", "H(a, b, ...) # b"},
	} {
		want.macro.Body = body(t, want.body)
		got, e := macro.Parse(lex(t, s))
		if e != api.OK || !equal(got, want.macro) || !macro.Right(got) || !macro.Same(got, want.macro) {
			t.Errorf("Parse(%q) = %s, %d; want %s", s, show(got), e, show(want.macro))
		}
		wantShown(t, got, want.shown)
	}
}

// P3.1: tokens that define nothing.
func TestParseWrong(t *testing.T) {
	wantRefused(t, nil)
	wantRefused(t, []api.Tok{})
	for _, s := range []string{
		"1", "+", "(", "'a'", `"a"`, "@", "1 X", "(X) 1", "# X",
		"defined", "defined 1", "defined(a) a", "__VA_ARGS__", "__VA_ARGS__ 1", "__VA_ARGS__()",
		"X+1", "X=", "X\"a\"", "X'a'", "X#", "X##", "X)", "X...", "X@ 1", "X[a]",
		"X ##", "X ## a", "X a ##", "X ## ##", "X a __VA_ARGS__", "X __VA_ARGS__",
		"F(", "F(a", "F(a,", "F(a b", "F(a,b", "F(...", "F(a,...", "F(,",
		"F(a,) a", "F(,a) a", "F(,) a", "F(a,,b) a", "F(a b) a", "F(a;b) a", "F((a)) a",
		"F(a...) a", "F(...,a) a", "F(...,...) a", "F(... ...) a", "F(a,... b) a", "F(....) a", "F(a,...,) a", "F(. . .) a", "F(a ...)",
		"F(1) a", "F(a, 1) a", "F(+) a", "F('a') a", `F("a") a`, "F(@) a", "F(#) a",
		"F(a,a) a", "F(a,b,a) a", "F(a,b,b,...) a", "F(__VA_ARGS__) a", "F(a,__VA_ARGS__) a", "F(__VA_ARGS__,...) a",
		"F(a) # b", "F(a) #", "F(a) a #", "F(a) # # a", "F(a) # ## a", "F() # a", "F() # F", "F(a) #1", "F(a) # (a)", "F(a) # a # b",
		"F(a) __VA_ARGS__", "F(a) # __VA_ARGS__", "F() __VA_ARGS__", "G(...) # a", "H(a,...) # b",
		"F(a) ## a", "F(a) a ##", "F(a) ##", "F(a)##a", "G(...) ## __VA_ARGS__", "G(...) __VA_ARGS__ ##",
	} {
		wantRefused(t, lex(t, s))
	}
}

// P3.1: places of tokens do not matter, but Space ahead of `(`, or of a body; a macro has none of them.
func TestParsePlaces(t *testing.T) {
	want := parse(t, "F(a) a + a")
	l := lex(t, "F( a ) a + a")
	for i := range l {
		l[i].File, l[i].Line, l[i].First = "f"+strconv.Itoa(i), i-3, i%2 == 0
	}
	l[0].Space = true
	if m, e := macro.Parse(l); e != api.OK || !equal(m, want) {
		t.Error(show(m), e)
	}
	for s, sign := range map[string]bool{"X a": false, "X (a)": false, "X(a)": true} {
		l := lex(t, s)
		l[1].First = true // a line end is no blank
		m, e := macro.Parse(l)
		if e != api.OK || m.Func != sign {
			t.Error(s, show(m), e)
		}
	}
	for i, space := range []bool{false, true} {
		l := lex(t, "X a b")
		l[1].Space = space
		m, e := macro.Parse(l)
		if want := []api.Errno{api.ErrDefine, api.OK}[i]; e != want || space && m.Body[0].Space {
			t.Error(space, show(m), e)
		}
	}
	// What two lines part, their tokens must part, too.
	l = lex(t, "X a b")
	l[2].First, l[2].Space = true, false
	wantRefused(t, l)
	l = lex(t, "X a +")
	l[2].First, l[2].Space = true, false
	if m, e := macro.Parse(l); e != api.OK || !equal(m, parse(t, "X a+")) {
		t.Error(show(m), e)
	}
}

// P3.1, R1: tokens that Lex does not tell define nothing, wherever they stand.
func TestParseNoTokens(t *testing.T) {
	for _, s := range []string{"F(a, b, ...) a # b ## __VA_ARGS__ 1", "X a (1) + 'c'"} {
		whole := lex(t, s)
		for i := range whole {
			l := slices.Clone(whole)
			for _, kind := range []int{math.MinInt, -1, 0, api.TName, api.TNumber, api.TChar, api.TText, api.TPunct, api.TOther, 7, math.MaxInt} {
				if l[i].Kind = kind; kind != whole[i].Kind {
					wantRefused(t, l)
				}
			}
			l[i] = whole[i]
			for _, wrong := range []string{"", " ", "a b", " a", "a ", "/**/", "//", "\"", "'", "''", "1 ", "+ +", "&&&", "a\n", "\x00\x00"} {
				l[i].S = wrong
				wantRefused(t, l)
			}
		}
	}
}

// P3.1: a macro that is right is so no more, if one thing of it is wrong.
func TestRight(t *testing.T) {
	plain := parse(t, "X a + b")
	full := parse(t, "F(a, b, ...) a ## b # a # __VA_ARGS__")
	for what, c := range map[string]struct {
		from api.Macro
		edit func(m *api.Macro)
	}{
		"no name":                 {plain, func(m *api.Macro) { m.Name = "" }},
		"a number as name":        {plain, func(m *api.Macro) { m.Name = "1" }},
		"a sign as name":          {full, func(m *api.Macro) { m.Name = "(" }},
		"two names":               {plain, func(m *api.Macro) { m.Name = "a b" }},
		"a blank at a name":       {plain, func(m *api.Macro) { m.Name = "X " }},
		"a blank ahead":           {plain, func(m *api.Macro) { m.Name = " X" }},
		"a comment at a name":     {plain, func(m *api.Macro) { m.Name = "X/**/" }},
		"a line end at a name":    {plain, func(m *api.Macro) { m.Name = "X\n" }},
		"a letter beyond":         {plain, func(m *api.Macro) { m.Name = "é" }},
		"defined":                 {full, func(m *api.Macro) { m.Name = "defined" }},
		"the others as name":      {full, func(m *api.Macro) { m.Name = "__VA_ARGS__" }},
		"parameters without Func": {plain, func(m *api.Macro) { m.Params = []string{"c"} }},
		"More without Func":       {plain, func(m *api.Macro) { m.More = true }},
		"Func taken off":          {full, func(m *api.Macro) { m.Func = false }},
		"More taken off":          {full, func(m *api.Macro) { m.More = false }},
		"no parameters":           {full, func(m *api.Macro) { m.Params = nil }},
		"parameters alike":        {full, func(m *api.Macro) { m.Params = []string{"a", "a"} }},
		"others alike":            {full, func(m *api.Macro) { m.Params = []string{"a", "b", "c", "b"} }},
		"an empty parameter":      {full, func(m *api.Macro) { m.Params = []string{"a", ""} }},
		"a number as parameter":   {full, func(m *api.Macro) { m.Params = []string{"a", "1b"} }},
		"a blank at a parameter":  {full, func(m *api.Macro) { m.Params = []string{"a", " b"} }},
		"dots as parameter":       {full, func(m *api.Macro) { m.Params = []string{"a", "..."} }},
		"the others as parameter": {full, func(m *api.Macro) { m.Params = []string{"a", "__VA_ARGS__"} }},
		"a file":                  {plain, func(m *api.Macro) { m.Body[1].File = "m" }},
		"a line":                  {plain, func(m *api.Macro) { m.Body[1].Line = 1 }},
		"a line below":            {plain, func(m *api.Macro) { m.Body[2].Line = -1 }},
		"the first line":          {plain, func(m *api.Macro) { m.Body[0].Line = 1 }},
		"First":                   {plain, func(m *api.Macro) { m.Body[0].First = true }},
		"a later First":           {plain, func(m *api.Macro) { m.Body[1].First = true }},
		"Space ahead":             {plain, func(m *api.Macro) { m.Body[0].Space = true }},
		"names that run together": {plain, func(m *api.Macro) { m.Body = []api.Tok{{Kind: api.TName, S: "a"}, {Kind: api.TName, S: "b"}} }},
		"a name and a number":     {plain, func(m *api.Macro) { m.Body = []api.Tok{{Kind: api.TName, S: "a"}, {Kind: api.TNumber, S: "1"}} }},
		"signs that run together": {plain, func(m *api.Macro) { m.Body = []api.Tok{{Kind: api.TPunct, S: "+"}, {Kind: api.TPunct, S: "+"}} }},
		"signs of a comment":      {plain, func(m *api.Macro) { m.Body = []api.Tok{{Kind: api.TPunct, S: "/"}, {Kind: api.TPunct, S: "/"}} }},
		"signs of an open one":    {plain, func(m *api.Macro) { m.Body = []api.Tok{{Kind: api.TPunct, S: "/"}, {Kind: api.TPunct, S: "*"}} }},
		"another kind":            {plain, func(m *api.Macro) { m.Body[0].Kind = api.TNumber }},
		"a kind of none":          {plain, func(m *api.Macro) { m.Body[0].Kind = 0 }},
		"an empty token":          {plain, func(m *api.Macro) { m.Body[1].S = "" }},
		"only an empty token":     {plain, func(m *api.Macro) { m.Body = make([]api.Tok, 1) }},
		"two tokens in one":       {plain, func(m *api.Macro) { m.Body[1].S = "+-" }},
		"a comment in a token":    {plain, func(m *api.Macro) { m.Body[2].S = "b/**/" }},
		"a comment as token":      {plain, func(m *api.Macro) { m.Body[1].S = "//" }},
		"an open text":            {plain, func(m *api.Macro) { m.Body[2] = api.Tok{Kind: api.TText, S: `"b`, Space: true} }},
		"a blank as token":        {plain, func(m *api.Macro) { m.Body[1].S = "\t" }},
		"a first ##":              {full, func(m *api.Macro) { m.Body = m.Body[1:]; m.Body[0].Space = false }},
		"a last ##":               {full, func(m *api.Macro) { m.Body = m.Body[:2] }},
		"a ## alone":              {full, func(m *api.Macro) { m.Body = []api.Tok{{Kind: api.TPunct, S: "##"}} }},
		"a first ## of a plain":   {plain, func(m *api.Macro) { m.Body[0] = api.Tok{Kind: api.TPunct, S: "##"} }},
		"a last ## of a plain":    {plain, func(m *api.Macro) { m.Body[2] = api.Tok{Kind: api.TPunct, S: "##", Space: true} }},
		"a last #":                {full, func(m *api.Macro) { m.Body = m.Body[:4] }},
		"a # of another name":     {full, func(m *api.Macro) { m.Body[4].S = "c" }},
		"a # of its own name":     {full, func(m *api.Macro) { m.Body[4].S = "F" }},
		"a # of a number":         {full, func(m *api.Macro) { m.Body[4] = api.Tok{Kind: api.TNumber, S: "1", Space: true} }},
		"the others, of a plain":  {plain, func(m *api.Macro) { m.Body[0].S = "__VA_ARGS__" }},
		"nothing":                 {plain, func(m *api.Macro) { *m = api.Macro{} }},
	} {
		m := c.from
		m.Params, m.Body = slices.Clone(m.Params), slices.Clone(m.Body)
		if !macro.Right(m) || !macro.Same(m, c.from) {
			t.Errorf("%s: not right as it was: %s", what, show(m))
		}
		c.edit(&m)
		wantWrong(t, what, m)
	}
}

// P3.1, P3.3: how much there may be, and one more.
func TestLimits(t *testing.T) {
	for _, head := range []string{"F()", "X"} {
		m := parse(t, head+" "+times(500))
		if len(m.Body) != 500 || !macro.Right(m) {
			t.Error(len(m.Body))
		}
		wantShown(t, m, head+" "+times(500))
		wantRefused(t, lex(t, head+" "+times(501)))
		wantRefused(t, lex(t, head+" "+times(19000)))
		m.Body = body(t, times(501))
		wantWrong(t, "501 tokens", m)
	}
	for _, dots := range []string{"", ", ..."} {
		s := "F(" + strings.Join(names(16), ", ") + dots + ") # p15"
		m := parse(t, s)
		if len(m.Params) != 16 || !macro.Right(m) {
			t.Error(len(m.Params))
		}
		wantShown(t, m, s)
		for _, n := range []int{17, 5000} {
			wantRefused(t, lex(t, "F("+strings.Join(names(n), ", ")+dots+") # p15"))
			m.Params = names(n)
			wantWrong(t, "many parameters", m)
		}
	}
	long := strings.Repeat("a", 100000)
	wantShown(t, parse(t, long+"("+long+") #"+long), long+"("+long+") #"+long)
}

// P3.1: macros that differ in anything are not the same.
func TestSame(t *testing.T) {
	var l []api.Macro
	for _, s := range []string{
		"X", "Y", "X()", "Y()", "X(...)", "X(a)", "X(b)", "X(a, b)", "X(b, a)", "X(a, ...)", "X a", "X b", "X a a", "X a+a", "X a +a", "X a+ a", "X a + a", "X() a", "X(a) a", "X(b) b", "X(b) a", "X (a) a", "X 'a'", "X \"a\"",
	} {
		l = append(l, parse(t, s))
	}
	for i, a := range l {
		for j, b := range l {
			if macro.Same(a, b) != (i == j) {
				t.Errorf("%s, %s: %v", show(a), show(b), i != j)
			}
			tab := macro.New()
			want := api.OK
			if a.Name == b.Name && i != j {
				want = api.ErrAgain
			}
			if e, f := tab.Define(a), tab.Define(b); e != api.OK || f != want {
				t.Errorf("Define %s, %s: %d, %d", show(a), show(b), e, f)
			}
			if got, ok := tab.Get(a.Name); !ok || !equal(got, a) {
				t.Error(show(got), ok)
			}
		}
		bare := a
		if len(a.Params) == 0 {
			bare.Params = []string{}
		}
		if len(a.Body) == 0 {
			bare.Body = []api.Tok{}
		}
		if !macro.Same(a, bare) || !macro.Same(bare, a) {
			t.Errorf("nil and empty: %s", show(a))
		}
		wrong := a
		wrong.Name = "defined"
		if macro.Same(a, wrong) || macro.Same(wrong, a) || macro.Same(wrong, wrong) {
			t.Errorf("wrong: %s", show(wrong))
		}
	}
}

var (
	bareHead = regexp.MustCompile(`^ *([A-Za-z_]\w*)(\( *(?:([A-Za-z_]\w*(?: *, *[A-Za-z_]\w*)*)(?: *, *(\.\.\.))?|(\.\.\.))? *\))?(.*)$`)
	bareName = regexp.MustCompile(`[A-Za-z_]\w*`)
)

// bareParse reads a line as a definition, by its text, otherwise than the program does it.
func bareParse(t *testing.T, s string) (api.Macro, bool) {
	part := bareHead.FindStringSubmatch(s)
	if part == nil {
		return api.Macro{}, false
	}
	m := api.Macro{Name: part[1], Func: part[2] != "", More: part[4]+part[5] != "", Params: bareName.FindAllString(part[3], -1)}
	rest := strings.Trim(part[6], " ")
	if !m.Func && rest != "" && part[6][0] != ' ' {
		return api.Macro{}, false
	}
	m.Body = body(t, rest)
	sorted := slices.Sorted(slices.Values(m.Params))
	bad := m.Name == "defined" || m.Name == "__VA_ARGS__" || len(slices.Compact(sorted)) != len(m.Params) || slices.Contains(m.Params, "__VA_ARGS__") ||
		len(m.Body) > 0 && (m.Body[0].S == "##" || m.Body[len(m.Body)-1].S == "##")
	for i, x := range m.Body {
		bad = bad || x.S == "__VA_ARGS__" && !m.More
		if x.S == "#" && m.Func {
			last := i == len(m.Body)-1
			bad = bad || last || !slices.Contains(append(slices.Clone(m.Params), "__VA_ARGS__"), m.Body[i+1].S)
		}
	}
	return m, !bad
}

// every hands on all texts that are at most so many of the pieces.
func every(pieces []string, most int, begin string, check func(string)) {
	check(begin)
	if most == 0 {
		return
	}
	for _, p := range pieces {
		every(pieces, most-1, begin+p, check)
	}
}

// P3.1, P3.2, P3.4: all short definitions of what matters.
func TestEveryShortDefinition(t *testing.T) {
	check := func(s string) {
		want, ok := bareParse(t, s)
		if !ok {
			wantRefused(t, lex(t, s))
			return
		}
		m, e := macro.Parse(lex(t, s))
		if e != api.OK || !equal(m, want) {
			t.Errorf("Parse(%q) = %s, %d; want %s", s, show(m), e, show(want))
			return
		}
		shown, e := macro.Show(m)
		if again := parse(t, shown); e != api.OK || !macro.Same(m, again) {
			t.Errorf("%q: %q, %d: %s", s, shown, e, show(again))
		}
	}
	every([]string{"X", "defined", "__VA_ARGS__", "1", "(", ")", ",", "...", "#", "##", " "}, 4, "", check)
	every([]string{"a", "b", ")", ",", "...", " "}, 6, "F(", check)
	every([]string{"a", "__VA_ARGS__", "#", "##", " "}, 5, "F(a)", check)
	every([]string{"a", "__VA_ARGS__", "#", "##", " "}, 5, "F(...)", check)
	every([]string{"a", "(", "#", "##", " "}, 5, "X ", check)
}

// P3.3: macros come into the table, are told, and go.
func TestTable(t *testing.T) {
	tab := macro.New()
	if l := tab.Names(); len(l) != 0 {
		t.Error(l)
	}
	want := map[string]api.Macro{}
	for _, s := range []string{"b 1", "a(x, ...) # x", "B", "_ 2", "a1()", "aa", "c(a) a"} {
		m := parse(t, s)
		want[m.Name] = m
		for range 2 { // the same one, once more
			if e := tab.Define(m); e != api.OK {
				t.Error(s, e)
			}
		}
	}
	order := []string{"B", "_", "a", "a1", "aa", "b", "c"}
	if l := tab.Names(); !slices.Equal(l, order) {
		t.Error(l)
	}
	for name, m := range want {
		if got, ok := tab.Get(name); !ok || !equal(got, m) {
			t.Error(name, show(got), ok)
		}
	}
	for _, name := range []string{"", "x", "A", "1", "b ", "defined", "__VA_ARGS__"} {
		if m, ok := tab.Get(name); ok || !empty(m) {
			t.Error(name, show(m), ok)
		}
		if e := tab.Undef(name); e != api.OK || !slices.Equal(tab.Names(), order) {
			t.Error(name, e, tab.Names())
		}
	}
	for len(order) > 0 {
		name := order[len(order)/2]
		order = slices.DeleteFunc(order, func(s string) bool { return s == name })
		if e := tab.Undef(name); e != api.OK || !slices.Equal(tab.Names(), order) {
			t.Error(name, e, tab.Names())
		}
		if m, ok := tab.Get(name); ok || !empty(m) {
			t.Error(name, show(m), ok)
		}
	}
}

// P3.3, R2: an error changes nothing; ErrArg goes ahead of ErrAgain, and that ahead of ErrMany.
func TestDefineErrors(t *testing.T) {
	tab := macro.New()
	for i := range 1000 {
		if e := tab.Define(parse(t, "M"+strconv.Itoa(i)+" 1")); e != api.OK {
			t.Error(i, e)
		}
	}
	wrong := parse(t, "M5 2")
	wrong.More = true
	stranger := wrong
	stranger.Name = "N"
	for _, c := range []struct {
		m    api.Macro
		want api.Errno
	}{
		{parse(t, "M5 1"), api.OK},
		{parse(t, "M5 2"), api.ErrAgain},
		{parse(t, "M5()1"), api.ErrAgain},
		{parse(t, "N 1"), api.ErrMany},
		{wrong, api.ErrArg},
		{stranger, api.ErrArg},
	} {
		if e := tab.Define(c.m); e != c.want || len(tab.Names()) != 1000 {
			t.Errorf("%s: %d, %d names; want %d", show(c.m), e, len(tab.Names()), c.want)
		}
	}
	if m, ok := tab.Get("M5"); !ok || !equal(m, parse(t, "M5 1")) {
		t.Error(show(m), ok)
	}
	if _, ok := tab.Get("N"); ok {
		t.Error("N")
	}
	// Where one goes, another one has room.
	for i, want := range []api.Errno{api.OK, api.ErrMany} {
		tab.Undef("M5")
		if e := tab.Define(parse(t, "N"+strconv.Itoa(i))); e != want {
			t.Error(i, e)
		}
	}
	if e := tab.Define(parse(t, "M5 2")); e != api.ErrMany {
		t.Error(e)
	}
}

// P3.3, R4: of a nil table there is nothing; a table that New did not make has none, and takes some.
func TestOtherTables(t *testing.T) {
	x := parse(t, "X 1")
	var none *macro.Table
	for _, m := range []api.Macro{x, {}} {
		if e := none.Define(m); e != api.ErrNil {
			t.Error(e)
		}
	}
	for _, name := range []string{"X", ""} {
		if e := none.Undef(name); e != api.ErrNil {
			t.Error(e)
		}
		if m, ok := none.Get(name); ok || !empty(m) {
			t.Error(show(m), ok)
		}
	}
	if l := none.Names(); len(l) != 0 {
		t.Error(l)
	}
	var bare macro.Table
	if m, ok := bare.Get("X"); ok || !empty(m) || len(bare.Names()) != 0 || bare.Undef("X") != api.OK {
		t.Error(show(m), ok)
	}
	if e := bare.Define(x); e != api.OK || !slices.Equal(bare.Names(), []string{"X"}) {
		t.Error(e, bare.Names())
	}
}

// R4: tables hang on nothing but what was done to them.
func TestTwoTables(t *testing.T) {
	a, b := macro.New(), macro.New()
	a.Define(parse(t, "X 1"))
	if e := b.Define(parse(t, "X 2")); e != api.OK {
		t.Error(e)
	}
	b.Define(parse(t, "Y"))
	a.Undef("Y")
	if !slices.Equal(a.Names(), []string{"X"}) || !slices.Equal(b.Names(), []string{"X", "Y"}) {
		t.Error(a.Names(), b.Names())
	}
}

// spoil writes over all that a macro's lists hold, and behind them.
func spoil(m api.Macro) {
	params, toks := m.Params[:cap(m.Params)], m.Body[:cap(m.Body)]
	for i := range params {
		params[i] = "spoilt"
	}
	for i := range toks {
		toks[i] = api.Tok{S: "spoilt"}
	}
}

// P3.4, R3: what Get and Names told, what Define was handed and what Parse answered are their callers' own.
func TestMemory(t *testing.T) {
	const s = "F(a, b, ...) a # b __VA_ARGS__"
	want := parse(t, s)
	tab := macro.New()
	m := parse(t, s)
	tab.Define(m)
	spoil(m)
	for range 2 {
		got, ok := tab.Get("F")
		if !ok || !equal(got, want) {
			t.Error(show(got), ok)
		}
		_ = append(got.Params[:1], "more")
		spoil(got)
		l := tab.Names()
		if !slices.Equal(l, []string{"F"}) {
			t.Error(l)
		}
		l[0] = "G"
	}
	again := parse(t, s)
	tab.Define(again) // there already: this one is not kept, either
	spoil(again)
	if got, _ := tab.Get("F"); !equal(got, want) {
		t.Error(show(got))
	}
	told, _ := tab.Get("F")
	tab.Undef("F")
	tab.Define(parse(t, "F"))
	if !equal(told, want) {
		t.Error(show(told))
	}
	l := lex(t, s)
	parsed, _ := macro.Parse(l)
	spoil(parsed)
	if !slices.Equal(l, lex(t, s)) {
		t.Error(l)
	}
	parsed, _ = macro.Parse(l)
	clear(l)
	if !equal(parsed, want) {
		t.Error(show(parsed))
	}
}

// R3: what is handed in stays as it is, spare room too.
func TestHandedIn(t *testing.T) {
	const s = "F(a, b, ...) a # b __VA_ARGS__"
	m := parse(t, s)
	m.Params = append(slices.Clone(m.Params), "c", "d")[:2]
	m.Body = append(slices.Clone(m.Body), body(t, "e f")...)[:len(m.Body)]
	params, toks := slices.Clone(m.Params[:cap(m.Params)]), slices.Clone(m.Body[:cap(m.Body)])
	tab := macro.New()
	macro.Right(m)
	macro.Same(m, m)
	macro.Show(m)
	tab.Define(m)
	tab.Define(m)
	if !slices.Equal(m.Params[:cap(m.Params)], params) || !slices.Equal(m.Body[:cap(m.Body)], toks) {
		t.Error(show(m))
	}
	l := lex(t, s+" x y")
	macro.Parse(l[:len(l)-2])
	if !slices.Equal(l, lex(t, s+" x y")) {
		t.Error(l)
	}
}

// R1: whatever a token's bytes are, there is an answer; a body that is right comes back.
func TestAnyBytes(t *testing.T) {
	for a := range 256 {
		for b := range 256 {
			s := string([]byte{byte(a), byte(b)})
			for _, l := range [][]api.Tok{
				{{Kind: api.TName, S: s}, {Kind: api.TName, S: s, Space: true}},
				{{Kind: api.TName, S: "X"}, {Kind: api.TOther, S: s[:1], Space: true}, {Kind: api.TPunct, S: s[1:]}},
				{{Kind: api.TName, S: "F"}, {Kind: api.TPunct, S: "("}, {Kind: api.TName, S: s}, {Kind: api.TPunct, S: ")"}},
			} {
				m, e := macro.Parse(l)
				if e != api.OK {
					wantRefused(t, l)
					continue
				}
				shown, _ := macro.Show(m)
				if again := parse(t, shown); !macro.Same(m, again) {
					t.Errorf("%q: %s", shown, show(m))
				}
			}
		}
	}
}

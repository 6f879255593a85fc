package run_test

import (
	"fmt"
	"math"
	"strconv"
	"strings"
	"testing"

	"burin/api"
	"burin/arith"
	"burin/kind"
	"burin/lex"
	"burin/run"
	"burin/text"
	"burin/token"
	"burin/unit"
)

// read is a text's unit.
func read(t testing.TB, s string) api.Unit {
	t.Helper()
	lines, e := text.Lines(s)
	toks, f, _ := token.Lex(lines)
	l, g, _, _ := lex.Words(toks)
	u, h, _ := unit.Parse(l)
	if e != api.OK || f != api.OK || g != api.OK || h != api.OK {
		t.Fatalf("%.300q: %d, %d, %d, %d", s, e, f, g, h)
	}
	return u
}

func numbers(t testing.TB, s string) []int64 {
	t.Helper()
	var l []int64
	for n := range strings.FieldsSeq(s) {
		v, err := strconv.ParseInt(n, 10, 64)
		if err != nil {
			t.Fatal(err)
		}
		l = append(l, v)
	}
	return l
}

// said is an Out as a text: events as e(2)=10, and behind them the value, or why there is none.
func said(o api.Out) string {
	var l []string
	for _, e := range o.Events {
		args := strings.Trim(strings.ReplaceAll(fmt.Sprint(e.Args), " ", ","), "[]")
		l = append(l, fmt.Sprintf("%s(%s)=%d", e.Name, args, e.V))
	}
	switch {
	case o.Code == api.OK:
		l = append(l, fmt.Sprint(o.V))
	case o.V != 0:
		l = append(l, fmt.Sprintf("%d beside %d", o.V, o.Code))
	case o.Code == api.ErrUndef:
		l = append(l, "undef")
	case o.Code == api.ErrLimit:
		l = append(l, "limit")
	default:
		l = append(l, fmt.Sprintf("error %d", o.Code))
	}
	return strings.Join(l, " ")
}

// row is a run of a text's function f, and what it comes to.
type row struct{ text, args, script, want string }

func wantRows(t *testing.T, rows []row) {
	t.Helper()
	for _, r := range rows {
		wantSteps(t, r, 5000)
	}
}

func wantSteps(t *testing.T, r row, steps int) {
	t.Helper()
	u := read(t, r.text)
	args, script := numbers(t, r.args), numbers(t, r.script)
	if got := said(run.Run(u, "f", args, script, steps)); got != r.want {
		t.Errorf("%s: f(%s), script %s, %d steps: %.300s; want %s", r.text, r.args, r.script, steps, got, r.want)
	}
	if got := said(bareRun(u, "f", args, script, steps)); got != r.want {
		t.Errorf("%s: f(%s), script %s, %d steps: the second reading %.300s; want %s", r.text, r.args, r.script, steps, got, r.want)
	}
}

// least is how many steps a run must have to end as it does with so many.
func least(t *testing.T, u api.Unit, args, script []int64, most int) int {
	t.Helper()
	want := said(run.Run(u, "f", args, script, most))
	low, high := 0, most
	for low < high {
		middle := (low + high) / 2
		if said(run.Run(u, "f", args, script, middle)) == want {
			high = middle
		} else {
			low = middle + 1
		}
	}
	return low
}

// wantLeast: with so many steps it ends as it says, with one fewer it comes to its limit.
func wantLeast(t *testing.T, r row, steps int) {
	t.Helper()
	if n := least(t, read(t, r.text), numbers(t, r.args), numbers(t, r.script), api.MaxRun); n != steps {
		t.Errorf("%s: %d steps; want %d", r.text, n, steps)
	}
	wantSteps(t, r, steps)
	got := said(run.Run(read(t, r.text), "f", numbers(t, r.args), numbers(t, r.script), steps-1))
	if !strings.HasSuffix(got, "limit") {
		t.Errorf("%s: %d steps: %s", r.text, steps-1, got)
	}
}

// P15.1: the chapter's examples, and that of the document.
func TestExamples(t *testing.T) {
	two := "int e(int a); int f(int n) { int s = 0; while (n > 0) { s = s + e(n); n = n - 1; } return s; }"
	wantRows(t, []row{
		{"int f(int x) { return x + 1; }", "2", "", "3"},
		{"int f(int x) { return x + 1; }", "2147483647", "", "undef"},
		{two, "2", "10 20", "e(2)=10 e(1)=20 30"},
		{"int f(void) { int x; return x; }", "", "", "undef"},
		{"int f(void) { }", "", "", "undef"},
		{"int f(void) { return f(); }", "", "", "limit"},
		{"int e(int a); int f(int x) { return e(x) + 1; }", "5", "10", "e(5)=10 11"},
	})
}

// P15.1: each kind of statement.
func TestStatements(t *testing.T) {
	const e = "int e(int a); "
	wantRows(t, []row{
		{"int f(void) { int x = 3; int y = x + 1; return x * y; }", "", "", "12"},
		{"int f(int x) { x = x + 1; x = x * x; return x; }", "4", "", "25"},
		{"int f(int x) { int y; y = x; x = 1; return y; }", "7", "", "7"},
		{e + "int f(int x) { e(x); e(x + 1); return x; }", "4", "8 9", "e(4)=8 e(5)=9 4"},
		{"int g(void) { return 4; } int f(void) { g(); return 1; }", "", "", "1"},
		{"int f(int x) { if (x) return 1; return 2; }", "1", "", "1"},
		{"int f(int x) { if (x) return 1; return 2; }", "-1", "", "1"},
		{"int f(int x) { if (x) return 1; return 2; }", "0", "", "2"},
		{"int f(int x) { if (x) x = 5; else x = 6; return x; }", "3", "", "5"},
		{"int f(int x) { if (x) x = 5; else x = 6; return x; }", "0", "", "6"},
		{"int f(int x) { if (x == 1) return 10; else if (x == 2) return 20; else return 30; }", "1", "", "10"},
		{"int f(int x) { if (x == 1) return 10; else if (x == 2) return 20; else return 30; }", "2", "", "20"},
		{"int f(int x) { if (x == 1) return 10; else if (x == 2) return 20; else return 30; }", "3", "", "30"},
		{"int f(int x) { if (x) if (x > 1) return 1; else return 2; return 3; }", "0", "", "3"},
		{"int f(int x) { if (x) if (x > 1) return 1; else return 2; return 3; }", "1", "", "2"},
		{"int f(long x) { if (x) return 1; return 2; }", "4294967296", "", "1"},
		{"int f(long x) { while (x) return 1; return 2; }", "4294967296", "", "1"},
		{"int f(int x) { int s = 0; while (x) { s = s + x; x = x - 1; } return s; }", "4", "", "10"},
		{"int f(int x) { int s = 0; while (x) { s = s + x; x = x - 1; } return s; }", "0", "", "0"},
		{"int f(int x) { while (e(x)) x = x + 1; return x; } int e(int a);", "0", "", "error 132"},
		{e + "int f(int x) { while (e(x)) x = x + 1; return x; }", "0", "5 -5 0 7", "e(0)=5 e(1)=-5 e(2)=0 2"},
		{"int f(int x) { while (1) { x = x + 1; if (x > 9) return x; } }", "0", "", "10"},
		{"int f(int x) { { x = 1; { x = x + 1; } x = x + 1; } ; { } return x; }", "0", "", "3"},
		{"int f(int x) { { return x; } x = 1 / 0; }", "7", "", "7"},
		{"int f(int x) { ; }", "7", "", "undef"},
		{"void f(int x) { return ; x = 1 / 0; }", "7", "", "0"},
	})
}

// P15.1: break and continue are those of the inner XWhile.
func TestLoops(t *testing.T) {
	const nested = "void e(int a, int b); int f(int n) { int i = 0; while (i < n) { int j = 0; i = i + 1; while (j < 3) { j = j + 1; %s e(i, j); } } return i; }"
	wantRows(t, []row{
		{fmt.Sprintf(nested, ";"), "2", "", "e(1,1)=0 e(1,2)=0 e(1,3)=0 e(2,1)=0 e(2,2)=0 e(2,3)=0 2"},
		{fmt.Sprintf(nested, "if (j == 2) break;"), "2", "", "e(1,1)=0 e(2,1)=0 2"},
		{fmt.Sprintf(nested, "if (j == 2) continue;"), "2", "", "e(1,1)=0 e(1,3)=0 e(2,1)=0 e(2,3)=0 2"},
		{fmt.Sprintf(nested, "if (j == 2) { { break; } }"), "1", "", "e(1,1)=0 1"},
		{fmt.Sprintf(nested, "if (j == 1) ; else { { continue; } }"), "1", "", "e(1,1)=0 1"},
		{fmt.Sprintf(nested, "if (j == 2) return 9;"), "2", "", "e(1,1)=0 9"},
		{fmt.Sprintf(nested, "while (1) { break; }"), "1", "", "e(1,1)=0 e(1,2)=0 e(1,3)=0 1"},
		{fmt.Sprintf(nested, "while (1) if (j) break; else continue;"), "1", "", "e(1,1)=0 e(1,2)=0 e(1,3)=0 1"},
		{"int f(int n) { while (1) { while (1) break; break; } return n; }", "3", "", "3"},
		{"int f(int n) { while (n) { n = n - 1; if (n > 2) continue; break; n = 1 / 0; } return n; }", "9", "", "2"},
		{"int f(int n) { while (n) { n = n - 1; while (0) ; continue; n = 1 / 0; } return n; }", "9", "", "0"},
		{"int g(int n) { while (1) break; return n; } int f(int n) { while (n) { g(n); n = n - 1; } return 5; }", "3", "", "5"},
	})
}

// P15.1: each kind of expression, and each operator.
func TestExpressions(t *testing.T) {
	for _, r := range []struct{ e, want string }{
		{"7", "7"}, {"a", "9"}, {"-a", "-9"}, {"~a", "-10"}, {"!a", "0"}, {"!z", "1"},
		{"a + b", "11"}, {"a - b", "7"}, {"b - a", "-7"}, {"a * b", "18"}, {"a / b", "4"}, {"-a / b", "-4"}, {"a % b", "1"}, {"-a % b", "-1"},
		{"a << b", "36"}, {"a >> b", "2"}, {"-a >> b", "-3"}, {"a & 3", "1"}, {"a ^ 3", "10"}, {"a | 6", "15"},
		{"a < b", "0"}, {"b < a", "1"}, {"a <= a", "1"}, {"a <= b", "0"}, {"a == 9", "1"}, {"a == b", "0"}, {"a != b", "1"}, {"a != 9", "0"}, {"a > b", "1"}, {"a >= b", "1"}, {"b > b", "0"}, {"b >= b", "1"},
		{"a && b", "1"}, {"a && z", "0"}, {"z && a", "0"}, {"z && z", "0"}, {"a || b", "1"}, {"a || z", "1"}, {"z || a", "1"}, {"z || z", "0"},
		{"(z ? a : b)", "2"}, {"(a ? a : b)", "9"}, {"-1 ? a : b", "9"},
		{"(char)200", "-56"}, {"(unsigned char)(a - 10)", "255"}, {"(unsigned short)-1", "65535"}, {"(int)4294967295", "-1"}, {"(unsigned)-1", "4294967295"}, {"(unsigned long)-1", "-1"},
		{"g(a, b)", "18"}, {"g(g(a, b), g(b, b))", "72"}, {"g(a, b) + g(b, b) * g(1, 1)", "22"},
		{"-1 < 0u", "0"}, {"-1 < (long)0u", "1"}, {"4294967296 && 1", "1"}, {"0 || 4294967296", "1"}, {"4294967296 ? 5 : 6", "5"},
		{"2147483647 + 1", "undef"}, {"2147483647 + 1u", "2147483648"}, {"2147483647 + (long)1", "2147483648"}, {"-2147483647 - 2", "undef"},
		{"65536 * 65536", "undef"}, {"65536u * 65536", "0"}, {"9223372036854775807 * 2", "undef"}, {"9223372036854775807 * 2ul", "-2"},
		{"a / z", "undef"}, {"a % z", "undef"}, {"(-2147483647 - 1) / -1", "undef"}, {"(-2147483647 - 1) % -1", "undef"}, {"-(-2147483647 - 1)", "undef"}, {"-(char)128", "128"},
		{"1 << 31", "undef"}, {"1u << 31", "2147483648"}, {"1 << 32", "undef"}, {"1 << -1", "undef"}, {"-1 << 1", "undef"}, {"1 >> 32", "undef"}, {"1l << 32", "4294967296"},
		{"(a ? -1 : 0u) > 0", "1"}, {"(a ? -1 : 0u) == 4294967295", "1"}, {"a ? (char)-1 : 0u", "4294967295"},
	} {
		wantRows(t, []row{{"int g(int x, int y) { return x * y; } long f(int a, int b, int z) { return " + r.e + "; }", "9 2 0", "", r.want}})
	}
}

// P15.1: the part of &&, || and ? : that isn't asked for isn't reckoned.
func TestNotReckoned(t *testing.T) {
	for _, r := range []struct{ e, script, want string }{
		{"e(1) && e(2)", "3 4", "e(1)=3 e(2)=4 1"},
		{"e(1) && e(2)", "3 0", "e(1)=3 e(2)=0 0"},
		{"e(1) && e(2)", "0 4", "e(1)=0 0"},
		{"e(1) || e(2)", "3 4", "e(1)=3 1"},
		{"e(1) || e(2)", "0 4", "e(1)=0 e(2)=4 1"},
		{"e(1) || e(2)", "0 0", "e(1)=0 e(2)=0 0"},
		{"e(1) ? e(2) : e(3)", "-1 5", "e(1)=-1 e(2)=5 5"},
		{"e(1) ? e(2) : e(3)", "0 5", "e(1)=0 e(3)=5 5"},
		{"e(1) && 1 / 0", "0", "e(1)=0 0"},
		{"e(1) && 1 / 0", "1", "e(1)=1 undef"},
		{"e(1) || 1 / 0", "1", "e(1)=1 1"},
		{"e(1) || 1 / 0", "0", "e(1)=0 undef"},
		{"e(1) ? 7 : 1 / 0", "1", "e(1)=1 7"},
		{"e(1) ? 7 : 1 / 0", "0", "e(1)=0 undef"},
		{"e(1) ? 1 / 0 : 7", "0", "e(1)=0 7"},
		{"e(1) ? 1 / 0 : 7", "1", "e(1)=1 undef"},
		{"e(1) && u", "0", "e(1)=0 0"},
		{"e(1) || u", "1", "e(1)=1 1"},
		{"e(1) ? u : 3", "0", "e(1)=0 3"},
		{"e(1) ? 3 : u", "1", "e(1)=1 3"},
		{"u && e(1)", "1", "undef"},
		{"u || e(1)", "1", "undef"},
		{"u ? e(1) : e(2)", "1", "undef"},
		{"1 / 0 && e(1)", "1", "undef"},
		{"0 && f() || e(1)", "2", "e(1)=2 1"},
		{"(0 && e(1)) + (1 || e(2)) + (1 ? 5 : e(3))", "2", "6"},
		{"e(1) && e(2) && e(3)", "1 0 1", "e(1)=1 e(2)=0 0"},
		{"e(1) || e(2) && e(3)", "0 1 1", "e(1)=0 e(2)=1 e(3)=1 1"},
		{"e(1) ? e(2) ? 1 : 2 : 3", "1 0", "e(1)=1 e(2)=0 2"},
	} {
		wantRows(t, []row{{"int e(int a); int f(void) { int u; return " + r.e + "; }", "", r.script, r.want}})
	}
}

// P15.1: expressions are reckoned from left to right.
func TestOrder(t *testing.T) {
	for _, r := range []struct{ e, want string }{
		{"e(1) + e(2)", "e(1)=10 e(2)=20 30"},
		{"e(1) - e(2) - e(3)", "e(1)=10 e(2)=20 e(3)=30 -40"},
		{"e(1) - (e(2) - e(3))", "e(1)=10 e(2)=20 e(3)=30 20"},
		{"e(1) + e(2) * e(3)", "e(1)=10 e(2)=20 e(3)=30 610"},
		{"e(1) < e(2)", "e(1)=10 e(2)=20 1"},
		{"e(1) > e(2)", "e(1)=10 e(2)=20 0"},
		{"e(1) << e(2)", "e(1)=10 e(2)=20 10485760"},
		{"h(e(1), e(2), e(3))", "e(1)=10 e(2)=20 e(3)=30 102030"},
		{"h(e(1), e(e(2)), e(3))", "e(1)=10 e(2)=20 e(20)=30 e(3)=40 103040"},
		{"i(e(1), i(e(2), e(3)))", "e(1)=10 e(2)=20 e(3)=30 i(20,30)=40 i(10,40)=50 50"},
		{"(e(1) ? e(2) : e(3)) + e(4)", "e(1)=10 e(2)=20 e(4)=30 50"},
		{"-e(1) + (char)e(2) + !e(3)", "e(1)=10 e(2)=20 e(3)=30 10"},
		{"e(1) + 1 / 0 + e(2)", "e(1)=10 undef"},
		{"1 / (e(1) - 10) + e(2)", "e(1)=10 undef"},
		{"h(e(1), 1 / 0, e(2))", "e(1)=10 undef"},
		{"i(e(1), 1 / 0)", "e(1)=10 undef"},
		{"h(1 / 0, e(1), e(2))", "undef"},
		{"u + e(1)", "undef"},
		{"e(1) + u", "e(1)=10 undef"},
		{"1 << 32 << e(1)", "undef"},
		{"1 / (0 * e(1))", "e(1)=10 undef"},
	} {
		wantRows(t, []row{{"int e(int a); int i(int a, int b); int h(int a, int b, int c) { return a * 10000 + b * 100 + c; } int f(void) { int u; return " + r.e + "; }", "", "10 20 30 40 50", r.want}})
	}
	wantRows(t, []row{
		{"int e(int a); int g(int x) { e(x); return e(x + 1); } int f(void) { return g(1) + g(e(5)); }", "", "1 2 3 4 5", "e(1)=1 e(2)=2 e(5)=3 e(3)=4 e(4)=5 7"},
		{"int e(int a); int f(void) { int x = e(1); int y = e(2); x = e(3); e(4); while (e(5)) if (e(6)) y = y + e(7); return e(8); }", "", "1 2 3 4 5 6 7 0 9", "e(1)=1 e(2)=2 e(3)=3 e(4)=4 e(5)=5 e(6)=6 e(7)=7 e(5)=0 e(8)=9 9"},
	})
}

// P15.1: variables that have no value, and those that get one, or lose it.
func TestVariables(t *testing.T) {
	const half = "int f(int x) { int y; if (x) y = 5; return y; }"
	const again = "int e(int a); int f(int n) { while (n) { int y%s; if (n == 3) y = 4; n = n - 1; e(y); } return 1; }"
	wantRows(t, []row{
		{half, "1", "", "5"},
		{half, "0", "", "undef"},
		{"int f(int x) { int y; if (x) y = 5; else y = 6; return y; }", "0", "", "6"},
		{"int f(int x) { int y; return x; }", "3", "", "3"},
		{"int f(int x) { int y; x = y; return x; }", "3", "", "undef"},
		{"int f(int x) { int y; int z = y; return x; }", "3", "", "undef"},
		{"int f(int x) { int y; y = y; return x; }", "3", "", "undef"},
		{"int f(int x) { int y; if (y) ; return x; }", "3", "", "undef"},
		{"int f(int x) { int y; while (y) ; return x; }", "3", "", "undef"},
		{"int f(int x) { int y; return y * 0; }", "3", "", "undef"},
		{"int g(int x); int f(int x) { int y; g(y); return x; }", "3", "", "undef"},
		{"int f(int x) { int y; return (char)y; }", "3", "", "undef"},
		{"int f(int x) { int y; return !y; }", "3", "", "undef"},
		{"int f(int x) { int y = 0; return y; }", "3", "", "0"},
		{fmt.Sprintf(again, ""), "3", "", "e(4)=0 undef"},
		{fmt.Sprintf(again, " = 1"), "3", "", "e(4)=0 e(1)=0 e(1)=0 1"},
		{"int e(int a); int f(int n) { int y; while (n) { if (n == 3) y = 4; n = n - 1; e(y); } return 1; }", "3", "", "e(4)=0 e(4)=0 e(4)=0 1"},
		{"int f(int n) { while (n) { n = n - 1; if (n == 1) { int y = 1; n = y; } else { int z; z = 7; } } return n; }", "2", "", "0"},
		{"int f(int n) { int a = 1; if (n > 0) { int b = f(n - 1); a = a + b; } return a; }", "5", "", "6"},
		{"int g(int x) { int y; if (x) y = 1; return y; } int f(void) { return g(1) + g(0); }", "", "", "undef"},
		{"int f(int n) { int y; if (n == 0) return y; y = 5; return f(n - 1); }", "1", "", "undef"},
		{"int f(int n) { int y = n; if (n) f(n - 1); return y; }", "4", "", "4"},
		{"int g(int x) { x = 9; return x; } int f(int x) { return g(x) + x; }", "1", "", "10"},
		{"int g(int x, int y) { return x - y; } int f(int y, int x) { return g(y, x); }", "5 3", "", "2"},
	})
}

// P15.1: what comes back at the end of a body, and from `return ;`.
func TestEnds(t *testing.T) {
	wantRows(t, []row{
		{"void f(void) { }", "", "", "0"},
		{"void f(int x) { x = 4; }", "3", "", "0"},
		{"void f(int x) { if (x) return ; x = 1 / 0; }", "3", "", "0"},
		{"void f(int x) { while (1) { while (1) return ; } }", "3", "", "0"},
		{"int f(int x) { x = 4; }", "3", "", "undef"},
		{"int f(int x) { if (x) return 1; }", "1", "", "1"},
		{"int f(int x) { if (x) return 1; }", "0", "", "undef"},
		{"char f(int x) { while (x) return 1; }", "0", "", "undef"},
		{"int e(void); int g(void) { e(); } int f(void) { g(); return 1; }", "", "4", "e()=4 undef"},
		{"int e(void); void g(void) { e(); } int f(void) { g(); return 1; }", "", "4", "e()=4 1"},
		{"int e(void); void g(int x) { if (x) return ; e(); } int f(void) { g(1); g(0); return 1; }", "", "4", "e()=4 1"},
		{"int e(void); int f(void) { e(); return 1 / 0; e(); }", "", "4", "e()=4 undef"},
		{"int e(void); void f(void) { e(); }", "", "4", "e()=4 0"},
		{"void g(void) { return ; } void f(void) { g(); }", "", "", "0"},
	})
}

// P15.1: what is returned, set, handed over, and what the script says is made a value of its kind.
func TestCasts(t *testing.T) {
	const v = 0x7fed_cba9_8765_43c5
	for k := api.KChar; k <= api.KULong; k++ {
		for _, v := range []int64{v, -v, 0, 255, 128, -1, math.MaxInt64, math.MinInt64} {
			made, _ := kind.To(v, k)
			name, in, out := kind.Name(k), fmt.Sprint(v), fmt.Sprint(made)
			want := out
			if k == api.KULong {
				want = fmt.Sprint(v)
			}
			wantRows(t, []row{
				{name + " f(long x) { return x; }", in, "", want},
				{name + " f(long x) { " + name + " y = x; return y; }", in, "", want},
				{"long f(long x) { " + name + " y = x; return y; }", in, "", want},
				{"long f(long x) { " + name + " y; y = x; return y; }", in, "", want},
				{"long g(" + name + " y) { return y; } long f(long x) { return g(x); }", in, "", want},
				{name + " g(long x) { return x; } long f(long x) { return g(x); }", in, "", want},
				{"long f(long x) { return (" + name + ")x; }", in, "", want},
				{"void e(" + name + " y); void f(long x) { e(x); }", in, "", "e(" + want + ")=0 0"},
				{name + " e(void); long f(void) { return e(); }", "", in, "e()=" + want + " " + want},
				{"long f(" + name + " x) { return x; }", out, "", want},
				{name + " f(" + name + " x) { x = x; return x; }", out, "", want},
			})
		}
	}
}

// P15.1: the script's numbers, one for each call that asks for one.
func TestScript(t *testing.T) {
	const three = "int e(int a); int f(void) { return e(1) * 100 + e(2) * 10 + e(3); }"
	wantRows(t, []row{
		{three, "", "", "e(1)=0 e(2)=0 e(3)=0 0"},
		{three, "", "4", "e(1)=4 e(2)=0 e(3)=0 400"},
		{three, "", "4 5", "e(1)=4 e(2)=5 e(3)=0 450"},
		{three, "", "4 5 6", "e(1)=4 e(2)=5 e(3)=6 456"},
		{three, "", "4 5 6 7 8", "e(1)=4 e(2)=5 e(3)=6 456"},
		{"void v(int a); int e(void); int f(void) { v(1); v(2); return e(); }", "", "7 8", "v(1)=0 v(2)=0 e()=7 7"},
		{"void v(void); void f(void) { v(); }", "", "7", "v()=0 0"},
		{"int e(void); char d(void); int f(void) { return e() + d(); }", "", "300 300", "e()=300 d()=44 344"},
		{"int e(void); int g(void) { return e(); } int f(void) { int x = g(); return x - e(); }", "", "7 8", "e()=7 e()=8 -1"},
		{"int e(int a, char b, long c, unsigned d, short g, unsigned char h, unsigned short i, unsigned long j); int f(void) { return e(1, 2, 3, 4, 5, 6, 7, 8); }", "", "9", "e(1,2,3,4,5,6,7,8)=9 9"},
	})
	wantRows(t, []row{{"int f(int x) { return x; }", "5", "1 2 3", "5"}})
}

// P15.1: of functions of one name that with a body is called, wherever it stands.
func TestToldAgain(t *testing.T) {
	const odd = "int even(int n); int odd(int n) { if (n) return even(n - 1); return 0; } int even(int m) { if (m) return odd(m - 1); return 1; } int f(int n) { return even(n); }"
	wantRows(t, []row{
		{"int f(int x); int f(int x) { return x; }", "5", "7", "5"},
		{"int f(int x) { return x; } int f(int y);", "5", "7", "5"},
		{"int f(int y); int f(int x) { return x; } int f(int z); int f(int x);", "5", "7", "5"},
		{"int g(int y); int f(int x) { return g(x); } int g(int x) { return x + 1; }", "5", "7", "6"},
		{"int g(int x) { return x + 1; } int g(int y); int f(int x) { return g(x); }", "5", "7", "6"},
		{"int g(int y); int g(int z); int f(int x) { return g(x); }", "5", "7", "g(5)=7 7"},
		{odd, "9", "", "0"},
		{odd, "8", "", "1"},
	})
}

// P15.1: the 31st call within each other is one too many, of functions with a body.
func TestCalls(t *testing.T) {
	const own = "int e(int a); int f(int n) { e(n); if (n > 1) return f(n - 1) + 1; return e(0) * 0 + 1; }"
	const pair = "int e(int a); int g(int n); int f(int n) { if (n > 1) return g(n - 1); e(n); return 7; } int g(int n) { if (n > 1) return f(n - 1); e(-n); return 8; }"
	deep := said(api.Out{Code: api.OK, V: 30, Events: countdown(30, 1, 0)})
	wantRows(t, []row{
		{own, "30", "", deep},
		{own, "31", "", said(api.Out{Code: api.ErrLimit, Events: countdown(31, 2)})},
		{own, "1", "", "e(1)=0 e(0)=0 1"},
		{pair, "30", "", "e(-1)=0 8"},
		{pair, "31", "", "limit"},
		{"int f(int n) { return n > 1 ? f(n - 1) : 1 / 0; }", "30", "", "undef"},
		{"int f(int n) { return n > 1 ? f(n - 1) : 1 / 0; }", "31", "", "limit"},
		{"int f(int n) { if (n > 1) return f(n - 1); }", "30", "", "undef"},
		{"int g(int n) { return n; } int f(int n) { int s = 0; while (n) { s = s + g(n); n = n - 1; } return s; }", "100", "", "5050"},
		{"int g(int n) { return n + 1; } int f(int n) { return g(g(g(g(g(g(g(g(g(g(g(g(g(g(g(g(g(g(g(g(g(g(g(g(g(g(g(g(g(g(g(g(g(n))))))))))))))))))))))))))))))))); }", "0", "", "33"},
		{"int f(int n) { if (n < 2) return 1; return f(n - 1) + f(n - 1); }", "9", "", "256"},
		{"int f(int n) { if (n > 1) { int a = f(n - 1); return a + f(1); } return 1; }", "30", "", "30"},
		{"int f(int n) { if (n > 1) { int a = f(n - 1); return a + f(2); } return 1; }", "30", "", "limit"},
	})
}

// countdown are the events of e that own tells from a number down to another one, and those behind it.
func countdown(from, to int64, more ...int64) []api.Event {
	var l []api.Event
	for n := from; n >= to; n-- {
		l = append(l, api.Event{Name: "e", Args: []int64{n}})
	}
	for _, n := range more {
		l = append(l, api.Event{Name: "e", Args: []int64{n}})
	}
	return l
}

// P15.1: how many steps each thing takes.
func TestSteps(t *testing.T) {
	for _, r := range []struct {
		row
		steps int
	}{
		{row{"void f(void) { }", "", "", "0"}, 1},
		{row{"void f(void) { ; }", "", "", "0"}, 2},
		{row{"void f(void) { return ; }", "", "", "0"}, 2},
		{row{"void f(void) { return ; ; ; }", "", "", "0"}, 2},
		{row{"int f(void) { }", "", "", "undef"}, 1},
		{row{"int f(void) { return 1 + 2 * 3 - -4; }", "", "", "11"}, 2},
		{row{"int f(void) { int x; int y = 1; x = y; return x; }", "", "", "1"}, 5},
		{row{"int f(int x) { { { x = 1; } } return x; }", "2", "", "1"}, 5},
		{row{"int f(int x) { { } ; { ; } return x; }", "2", "", "2"}, 6},
		{row{"int f(int x) { if (x) x = 1; return x; }", "2", "", "1"}, 4},
		{row{"int f(int x) { if (x) x = 1; return x; }", "0", "", "0"}, 3},
		{row{"int f(int x) { if (x) x = 1; else { x = 2; } return x; }", "0", "", "2"}, 5},
		{row{"int f(int x) { while (x) x = x - 1; return x; }", "0", "", "0"}, 4},
		{row{"int f(int x) { while (x) x = x - 1; return x; }", "3", "", "0"}, 10},
		{row{"int f(int x) { while (x) { x = x - 1; continue; ; } return x; }", "3", "", "0"}, 16},
		{row{"int f(int x) { while (x) { break; ; } return x; }", "3", "", "3"}, 6},
		{row{"int f(int x) { while (x) return 4; return x; }", "3", "", "4"}, 4},
		{row{"int e(int a); int f(int x) { e(x); return e(x) + e(e(x)); }", "3", "", "e(3)=0 e(3)=0 e(3)=0 e(0)=0 0"}, 7},
		{row{"int g(int x) { return x; } int f(int x) { g(x); return g(g(x)); }", "3", "", "3"}, 9},
		{row{"int g(int x) { return x; } int f(int x) { return x && g(x) || g(x) + g(x); }", "0", "", "0"}, 6},
		{row{"int f(int x) { int y; return y; }", "0", "", "undef"}, 3},
		{row{"int f(int x) { while (1 / x) ; return 1; }", "0", "", "undef"}, 3},
		{row{"int f(int x) { if (1 / x) ; return 1; }", "0", "", "undef"}, 2},
		{row{"int e(int a); int f(int x) { return e(x) + e(x / 0); }", "0", "", "e(0)=0 undef"}, 3},
		{row{"int e(int a); int f(int x) { return e(e(x) / 0); }", "0", "", "e(0)=0 undef"}, 3},
		{row{"int f(int n) { if (n > 1) return f(n - 1); return 1; }", "30", "", "1"}, 90},
		{row{"void f(int n) { while (n) n = n - 1; }", "499998", "", "0"}, 999999},
	} {
		wantLeast(t, r.row, r.steps)
	}
}

// P15.1: what was told up to the step that is one too many; that step does nothing.
func TestFewSteps(t *testing.T) {
	const f = "int e(int a); int f(int x) { while (e(x)) { x = e(x + 10); e(e(3)); } return 9; }"
	for steps, want := range []string{
		"limit", // no call
		"limit", // no XWhile
		"limit", // no condition
		"limit", // no e(x)
		"e(1)=5 limit",
		"e(1)=5 limit", // no XSet
		"e(1)=5 limit", // no e(x + 10)
		"e(1)=5 e(11)=6 limit",
		"e(1)=5 e(11)=6 limit", // no e(3)
		"e(1)=5 e(11)=6 e(3)=7 limit",
		"e(1)=5 e(11)=6 e(3)=7 e(7)=8 limit",
		"e(1)=5 e(11)=6 e(3)=7 e(7)=8 limit", // no e(x)
		"e(1)=5 e(11)=6 e(3)=7 e(7)=8 e(6)=0 limit",
		"e(1)=5 e(11)=6 e(3)=7 e(7)=8 e(6)=0 9",
		"e(1)=5 e(11)=6 e(3)=7 e(7)=8 e(6)=0 9",
	} {
		wantSteps(t, row{f, "1", "5 6 7 8 0", want}, steps)
	}
	const g = "int e(int a); int g(int x) { return e(x); } int f(int x) { e(1); return g(e(2)); }"
	for steps, want := range []string{"limit", "limit", "limit", "e(1)=0 limit", "e(1)=0 limit", "e(1)=0 e(2)=0 limit", "e(1)=0 e(2)=0 limit", "e(1)=0 e(2)=0 limit", "e(1)=0 e(2)=0 e(0)=0 0"} {
		wantSteps(t, row{g, "1", "", want}, steps)
	}
}

// P15.1: which comes first, of steps, calls, and what is undefined.
func TestFirst(t *testing.T) {
	const calls = "int f(int n) { if (n > 1) return f(n - 1); return 1 / (n - 1); }"
	for _, r := range []struct {
		row
		steps int
	}{
		{row{"int f(void) { return 1 / 0; }", "", "", "limit"}, 1},
		{row{"int f(void) { return 1 / 0; }", "", "", "undef"}, 2},
		{row{"int f(void) { }", "", "", "limit"}, 0},
		{row{"int f(void) { }", "", "", "undef"}, 1},
		{row{"int f(void) { ; }", "", "", "limit"}, 1},
		{row{"int f(void) { ; }", "", "", "undef"}, 2},
		{row{"int f(void) { while (1 / 0) ; }", "", "", "limit"}, 2},
		{row{"int f(void) { while (1 / 0) ; }", "", "", "undef"}, 3},
		{row{"int g(int x); int f(void) { return g(1 / 0); }", "", "", "undef"}, 2},
		{row{"int g(int x); int f(void) { return g(1) / 0; }", "", "", "limit"}, 2},
		{row{"int g(int x); int f(void) { return g(1) / 0; }", "", "", "g(1)=0 undef"}, 3},
		{row{"int g(void) { } int f(void) { return g(); }", "", "", "limit"}, 2},
		{row{"int g(void) { } int f(void) { return g(); }", "", "", "undef"}, 3},
		{row{calls, "30", "", "undef"}, 90},
		{row{calls, "30", "", "limit"}, 89},
		{row{calls, "31", "", "limit"}, 89},
		{row{calls, "31", "", "limit"}, 90},
		{row{calls, "31", "", "limit"}, 91},
		{row{"int f(int n) { return f(n > 29 ? 1 / 0 : n + 1); }", "1", "", "undef"}, 5000},
		{row{"int f(int n) { return f(n > 29 ? 1 / 0 : n + 1); }", "0", "", "limit"}, 5000},
		{row{"void f(void) { while (1) ; }", "", "", "limit"}, api.MaxRun},
		{row{"void f(int n) { while (n) n = n - 1; ; }", "499998", "", "0"}, api.MaxRun},
		{row{"void f(int n) { while (n) n = n - 1; ; ; }", "499998", "", "limit"}, api.MaxRun},
		{row{"void f(void) { }", "", "", "error 2"}, api.MaxRun + 1},
		{row{"void f(void) { }", "", "", "error 2"}, math.MaxInt},
		{row{"void f(void) { }", "", "", "error 2"}, -1},
		{row{"void f(void) { }", "", "", "error 2"}, math.MinInt},
	} {
		wantSteps(t, r.row, r.steps)
	}
}

// P15.2: blocks and names make no difference, also to the 31st call, and to what is undefined.
func TestForms(t *testing.T) {
	for _, forms := range [][]string{
		{"int f(int n) { return f(n); }", "int f(int e) { { { return f(e); } } }", "int f(int f) { ; return f(f); }"},
		{"int f(int n) { int y; if (n) y = 1; return y; }", "int f(int n) { int f; { if (n) { f = 1; } { return f; } } }"},
		{"int e(int a); int f(int n) { while (n) n = e(n); return n; }", "int e(int n); int f(int e) { { while (e) { { e = e(e); } } { } } return e; }"},
		{"int g(int x); int f(int x) { int y = g(x); return y + x; }", "int g(int f); int f(int g) { { int f = g(g); { return f + g; } } }"},
	} {
		for _, arg := range []string{"0", "1"} {
			first := said(run.Run(read(t, forms[0]), "f", numbers(t, arg), []int64{7, 0, 5}, 5000))
			for _, form := range forms[1:] {
				wantRows(t, []row{{form, arg, "7 0 5", first}})
			}
		}
	}
}

// P15.2: an expression's value is what arith makes of its parts.
func TestParts(t *testing.T) {
	signs := map[int]string{api.OAdd: "+", api.OSub: "-", api.OMul: "*", api.ODiv: "/", api.OMod: "%", api.OShl: "<<", api.OShr: ">>", api.OLess: "<", api.OLeq: "<=", api.OEq: "==", api.ONeq: "!=", api.OAnd: "&", api.OXor: "^", api.OOr: "|"}
	for op, sign := range signs {
		for a := api.KChar; a <= api.KULong; a++ {
			for b := api.KChar; b <= api.KULong; b++ {
				u := read(t, "unsigned long f("+kind.Name(a)+" x, "+kind.Name(b)+" y) { return x "+sign+" y; }")
				for _, v := range []int64{-1, 3, 200, math.MaxInt32, math.MinInt64, math.MaxInt64} {
					x, _ := kind.To(v, a)
					for _, w := range []int64{-1, 0, 2, 31, math.MinInt32, math.MaxInt64} {
						y, _ := kind.To(w, b)
						value, _, errno := arith.Two(op, x, a, y, b)
						wantOut(t, run.Run(u, "f", []int64{x, y}, nil, 2), api.Out{Code: errno, V: value})
					}
				}
			}
		}
	}
	for op, sign := range map[int]string{api.ONeg: "-", api.OFlip: "~", api.ONot: "!"} {
		for k := api.KChar; k <= api.KULong; k++ {
			u := read(t, "unsigned long f("+kind.Name(k)+" x) { return "+sign+"x; }")
			for _, v := range []int64{-1, 0, 1, 200, math.MinInt32, math.MaxInt64, math.MinInt64} {
				x, _ := kind.To(v, k)
				value, _, errno := arith.One(op, x, k)
				wantOut(t, run.Run(u, "f", []int64{x}, nil, 2), api.Out{Code: errno, V: value})
			}
		}
	}
}

// P15.1, R2: a unit that may not be, with Check's error, ahead of what else is wrong.
func TestWrongUnits(t *testing.T) {
	for _, r := range []struct {
		text string
		want api.Errno
	}{
		{"int f(int x) { return y; }", api.ErrName},
		{"int f(int x) { return f(); }", api.ErrCalls},
		{"int f(int x) { x; }", api.ErrUnit},
		{"int f(int x) { break; return x; }", api.ErrUnit},
		{"int f(int x) { return ; }", api.ErrCalls},
		{"int f(int x) { return x; } int g(int x, int x);", api.ErrName},
		{"int f(int x) { return x; } long f(int x);", api.ErrCalls},
		{"int f(int x) { return x; } int f(int x) { return x; }", api.ErrName},
		{"int e(int a); int f(int x) { e(x); return z; }", api.ErrName},
	} {
		u := read(t, r.text)
		for _, args := range [][]int64{{1}, nil, {1, 2}, {math.MaxInt64}} {
			for _, steps := range []int{5000, 0, -1, api.MaxRun + 1} {
				for _, name := range []string{"f", "q", ""} {
					wantOut(t, run.Run(u, name, args, []int64{5}, steps), api.Out{Code: r.want})
				}
			}
		}
	}
	right := read(t, "int f(int x) { return x; }")
	checked, _, _ := unit.Check(read(t, "char f(int x) { return x; }"))
	for _, u := range []api.Unit{
		{L: []api.Func{{}}},
		{L: []api.Func{{Sig: api.Sig{Name: "f", Ret: 9}, Has: true}}},
		{L: []api.Func{{Sig: api.Sig{Name: "f"}, Body: []api.Stmt{{Is: api.XBlock}}}}},
		{L: []api.Func{{Sig: api.Sig{Name: "f"}, Has: true, Body: []api.Stmt{{Is: 10}}}}},
		{L: []api.Func{{Sig: api.Sig{Name: "f"}, Has: true, Body: []api.Stmt{{Is: api.XCall}}}}},
		{L: make([]api.Func, 41)},
		{L: append(right.L, api.Func{Sig: api.Sig{Name: "return"}})},
		checked, // its kinds are told, which no words say
	} {
		wantOut(t, run.Run(u, "f", []int64{1}, nil, 100), api.Out{Code: api.ErrArg})
	}
}

func wantOut(t *testing.T, got, want api.Out) {
	t.Helper()
	if said(got) != said(want) || got.Code != want.Code {
		t.Errorf("%.300s; want %.300s", said(got), said(want))
	}
}

// P15.1: ErrArg of names, arguments and steps.
func TestWrongArguments(t *testing.T) {
	u := read(t, "int e(int a); int e2(int a); int f(int x, char y) { return x + y; } void g(void) { e(1); } unsigned h(unsigned long x) { return x; } int e2(int a);")
	wrong := api.Out{Code: api.ErrArg}
	for _, name := range []string{"", "e", "e2", "F", "f ", "x", "int", "ff"} {
		wantOut(t, run.Run(u, name, []int64{1}, nil, 100), wrong)
		wantOut(t, run.Run(u, name, nil, nil, 100), wrong)
	}
	for _, args := range [][]int64{nil, {}, {1}, {1, 2, 3}, {1, 128}, {1, -129}, {1 << 31, 1}, {-1<<31 - 1, 1}, {math.MaxInt64, math.MinInt64}} {
		wantOut(t, run.Run(u, "f", args, nil, 100), wrong)
	}
	wantOut(t, run.Run(u, "f", []int64{1<<31 - 1 - 127, 127}, nil, 100), api.Out{V: 1<<31 - 1})
	wantOut(t, run.Run(u, "f", []int64{-1<<31 + 128, -128}, nil, 100), api.Out{V: -1 << 31})
	wantOut(t, run.Run(u, "g", []int64{1}, nil, 100), wrong)
	wantOut(t, run.Run(u, "g", []int64{}, []int64{7}, 100), api.Out{Events: []api.Event{{Name: "e", Args: []int64{1}, V: 7}}})
	wantOut(t, run.Run(u, "h", []int64{-1}, nil, 100), api.Out{V: 1<<32 - 1})
	wantOut(t, run.Run(api.Unit{}, "f", nil, nil, 100), wrong)
	wantOut(t, run.Run(api.Unit{}, "", nil, nil, 100), wrong)
	for k := api.KChar; k <= api.KULong; k++ {
		u := read(t, "void f("+kind.Name(k)+" x) { }")
		for _, v := range []int64{0, -1, 127, 128, -128, -129, 255, 256, 32767, 32768, -32768, -32769, 65535, 65536, 1<<31 - 1, 1 << 31, -1 << 31, -1<<31 - 1, 1<<32 - 1, 1 << 32, math.MaxInt64, math.MinInt64} {
			want := wrong
			if kind.Lies(v, k) {
				want = api.Out{}
			}
			wantOut(t, run.Run(u, "f", []int64{v}, nil, 100), want)
		}
	}
}

package direct_test

import (
	"fmt"
	"slices"
	"strings"
	"testing"

	"burin/api"
	"burin/direct"
	"burin/text"
	"burin/token"
)

// file is one of such lines.
func file(name string, lines ...string) api.File {
	return api.File{Name: name, Data: strings.Join(lines, "\n") + "\n"}
}

// lines are a file's, parted by ` | `.
func lines(s string) string {
	return strings.ReplaceAll(strings.ReplaceAll(s, " | | ", " |  | "), " | ", "\n") + "\n"
}

// show keeps a failure of a long list readable.
func show(l []api.Tok) string { return fmt.Sprintf("%.600s", fmt.Sprintf("%+v", l)) }

func showFiles(l []api.File) string { return fmt.Sprintf("%.400s", fmt.Sprintf("%q", l)) }

// spelt is a text on one line, as far as blanks tell.
func spelt(l []api.Tok) string { return strings.ReplaceAll(token.Spell(l), "\n", " ") }

func wantToks(t *testing.T, files []api.File, name, want string) {
	t.Helper()
	l, e, f, n := direct.Process(files, name)
	if spelt(l) != want || e != api.OK || f != "" || n != 0 {
		t.Errorf("%s: %.300q, %d, %q, %d; want %.300q", showFiles(files), spelt(l), e, f, n, want)
	}
}

func wantFault(t *testing.T, files []api.File, name string, errno api.Errno, where string, line int) {
	t.Helper()
	l, e, f, n := direct.Process(files, name)
	if len(l) != 0 || e != errno || f != where || n != line {
		t.Errorf("%s: %s, %d, %q, %d; want %d, %q, %d", showFiles(files), show(l), e, f, n, errno, where, line)
	}
}

// wantBare holds an answer against the second reading.
func wantBare(t *testing.T, files []api.File, name string) bool {
	t.Helper()
	want, errno, where, line := bareProcess(files, name)
	l, e, f, n := direct.Process(files, name)
	if slices.Equal(l, want) && e == errno && f == where && n == line {
		return true
	}
	t.Errorf("%s:\n%s, %d, %q, %d;\nwant %s, %d, %q, %d", showFiles(files), show(l), e, f, n, show(want), errno, where, line)
	return false
}

// one is the file m of such lines, alone.
func one(s string) []api.File { return []api.File{{Name: "m", Data: lines(s)}} }

// P6.1: the chapter's examples, and what each directive does.
func TestProcess(t *testing.T) {
	for s, want := range map[string]string{
		"":    "",
		"a b": "a b",
		"#define X 1 | #if X + defined Y == 1 | X __LINE__ | #endif": "1 3",
		"#if 0 | #foo | #else | a | #endif":                          "a",
		"#line 7 \"x\" | __FILE__ __LINE__":                          `"x" 7`,
		"# | a | # /* b */ | c // | #//":                             "a c",
		" /* */ # /* */ define /* */ X /* */ 1 | X":                  "1",
		"a # b | ## c":                                 "a # b ## c",
		"#define X 1 | X | #undef X | X":               "1 X",
		"#undef X | X":                                 "X",
		"#undef defined | #undef __VA_ARGS__ | a":      "a",
		"#define X | #define X | X a":                  "a",
		"#define F(a) [a] | F(1) F | (2) | # | F | #":  "[1] [2] F",
		"#define F(a) a | F( | 1 | )":                  "1",
		"#define F(a) a | F | # | (1)":                 "F (1)",
		"#define F(a) a | F | #if 0 | #endif | (1)":    "F (1)",
		"#define X Y | #define Y 2 | X | #undef Y | X": "2 Y",
		"#pragma | #pragma x | #pragma once y | #pragma \"once\" | #pragma ONCE | a": "a",
		"#define pragma x | #define define y | #pragma once | #define X 1 | X":       "1",
		"#define if ifdef | #if 0 | a | #endif | if":                                 "ifdef",
	} {
		wantToks(t, one(s), "m", want)
		wantBare(t, one(s), "m")
	}
}

// P6.1: which part of a group is taken.
func TestGroups(t *testing.T) {
	for s, want := range map[string]string{
		"#if 1 | a | #endif | z":                                                                                 "a z",
		"#if 0 | a | #endif | z":                                                                                 "z",
		"#if 1 | a | #else | b | #endif":                                                                         "a",
		"#if 0 | a | #else | b | #endif":                                                                         "b",
		"#if 0 | a | #elif 1 | b | #elif 1 | c | #else | d | #endif":                                             "b",
		"#if 0 | a | #elif 0 | b | #elif 2 | c | #else | d | #endif":                                             "c",
		"#if 0 | a | #elif 0 | b | #elif 0 | c | #else | d | #endif":                                             "d",
		"#if 0 | a | #elif 0 | b | #endif | z":                                                                   "z",
		"#if 1 | a | #elif 1 / 0 | b | #elif | c | #elif defined 1 | #endif":                                     "a",
		"#if 0 | #elif 1 | b | #elif ( | c | #endif":                                                             "b",
		"#define X | #ifdef X | a | #endif | #ifndef X | b | #endif":                                             "a",
		"#ifdef X | a | #else | b | #endif | #ifndef X | c | #endif":                                             "b c",
		"#ifdef X | a | #elif 1 | b | #endif":                                                                    "b",
		"#ifndef X | a | #elif 1 | b | #else | c | #endif":                                                       "a",
		"#ifdef __LINE__ | a | #endif | #ifdef __FILE__ | b | #endif | #ifdef defined | c | #endif | z":          "z",
		"#ifndef __LINE__ | a | #endif | #ifndef __FILE__ | b | #endif | #ifndef defined | c | #endif":           "a b c",
		"#if 1 | #if 1 | a | #endif | b | #endif | c":                                                            "a b c",
		"#if 1 | #if 0 | a | #else | b | #endif | c | #else | d | #endif":                                        "b c",
		"#if 0 | #if 1 | a | #else | b | #endif | c | #else | d | #endif":                                        "d",
		"#if 0 | #if 0 | a | #elif 1 | b | #else | c | #endif | d | #endif | z":                                  "z",
		"#if 1 | a | #else | #if 1 | b | #endif | c | #endif":                                                    "a",
		"#if 1 | a | #elif 1 | #if 0 | b | #else | c | #endif | d | #else | #ifndef X | e | #endif | #endif | z": "a z",
	} {
		wantToks(t, one(s), "m", want)
		wantBare(t, one(s), "m")
	}
}

// P6.1: of what is skipped only the directives of groups count, and no token behind their names.
func TestSkipped(t *testing.T) {
	for _, junk := range []string{
		"#foo", "#error", "#include \"no\"", "#include", "#include \"m\"", "#define", "#define X+", "#define X 2", "#undef", "#undef __LINE__",
		"#line", "#line 9 \"y\"", "#line 0", "# 12", "##", "#", "#pragma once", "F(", "x", "#elif", "#elif 1 / 0", "#elif 0", "#elif F(",
		"#if | #endif", "#if 1 / 0 | #elif | #else x y | #endif z", "#ifdef | #endif 1", "#ifdef 1 | #else", "#ifndef a b | #elif ) | #endif",
		"#if 1 | #error | #else | #error | #endif", "#if F( | #if F( | #endif | #elif F( | #endif", "#if defined | #elif defined ( | #endif",
	} {
		if strings.HasSuffix(junk, "#else") {
			junk += " | #endif"
		}
		for _, s := range []string{
			"#define X 1 | #define F(a) a | #if 0 | " + strings.ReplaceAll(junk, "#elif", "#foo") + " | #endif | X __FILE__",
			"#define X 1 | #define F(a) a | #if 1 | #else | " + strings.ReplaceAll(junk, "#elif", "#foo") + " | #endif | X __FILE__",
			"#define X 1 | #define F(a) a | #if 1 | #elif | " + junk + " | #endif | X __FILE__",
			"#define X 1 | #define F(a) a | #if 0 | #if 1 | " + junk + " | #else | " + strings.ReplaceAll(junk, "#elif", "#foo") + " | #endif | #endif | X __FILE__",
		} {
			files := append(one(s), file("no", "b"))
			wantToks(t, files, "m", `1 "m"`)
			wantBare(t, files, "m")
		}
	}
}

// P6.1: conditions, with what is defined, expanded.
func TestConditions(t *testing.T) {
	defs := "#define X 1 | #define Y X + X | #define N 0 | #define E | #define F(a) a | #define G(a, b) a == b | #define D defined | #define P(a, b) a ## b | "
	for c, holds := range map[string]bool{
		"1": true, "0": false, "X": true, "Y == 2": true, "N": false, "Z": false, "-1": true, "18446744073709551615u": true,
		"defined X": true, "defined(X)": true, "defined ( X )": true, "defined Z": false, "defined (Z)": false, "!defined Z": true,
		"defined N": true, "defined E": true, "defined F": true, "defined(F)": true, "defined D": true, "defined defined": false, "defined(defined)": false,
		"defined __LINE__": false, "defined(__FILE__)": false, "defined X && defined Z": false, "defined X + defined Y == 2": true,
		"defined X E": true, "F(defined X)": true, "F(defined Z)": false, "G(defined X, 1)": true, "P(defined X, 0) == 10": true,
		"F": false, "F == 0": true, "F(2) == 2": true, "D": false, "D + 1": true, "__LINE__ == 9": true, "F(__LINE__) == 9": true, "__LINE__ == __LINE__": true,
		"'a' == 97": true, "defined X == X": true, "N ? 1 / 0 : X": true,
	} {
		want := "0"
		if holds {
			want = "1"
		}
		wantToks(t, one(defs+"#if "+c+" | 1 | #else | 0 | #endif"), "m", want)
		wantToks(t, one(defs+"#if 0 | # | #endif | #line 8 | #ifdef Z | #elif "+c+" | 1 | #else | 0 | #endif"), "m", want)
		wantBare(t, one(defs+"#if "+c+" | 1 | #else | 0 | #endif"), "m")
	}
	for c, errno := range map[string]api.Errno{
		"": api.ErrCond, "E": api.ErrCond, "1 +": api.ErrCond, "1 / N": api.ErrCond, "\"a\"": api.ErrCond, "__FILE__": api.ErrCond, "09": api.ErrCond, "X X": api.ErrCond,
		"18446744073709551615": api.ErrCond, "1 << 64": api.ErrCond, "= 1": api.ErrCond, "#": api.ErrCond, "@": api.ErrCond,
		"defined": api.ErrCond, "defined 1": api.ErrCond, "defined ()": api.ErrCond, "defined (X": api.ErrCond, "defined ( X Y )": api.ErrCond, "defined (": api.ErrCond,
		"defined ((X))": api.ErrCond, "defined + X": api.ErrCond, "0 && defined": api.ErrCond, "defined ( 1 )": api.ErrCond, "defined \"X\"": api.ErrCond, "defined [X)": api.ErrCond,
		"D X": api.ErrCond, "F(P(defined, X))": api.ErrCond, "D(X)": api.ErrCond, "defined F(1)": api.ErrCond, "defined X Y": api.ErrCond,
		"F(": api.ErrCall, "0 && F(": api.ErrCall, "G(1)": api.ErrCall, "F(1, 2)": api.ErrCall, "P(+, /)": api.ErrPaste, "F( defined": api.ErrCond, "1 / 0 + F(": api.ErrCall,
	} {
		wantFault(t, one(defs+"#if "+c+" | 1 | #endif"), "m", errno, "m", 9)
		wantFault(t, one(defs+"#if 0 | #elif "+c+" | 1 | #endif"), "m", errno, "m", 10)
		wantFault(t, one(defs+"#line 3 \"x\" | #if /* | | */ "+c+" | 1"), "m", errno, "x", 3)
		wantBare(t, one(defs+"#if "+c+" | 1 | #else | 0 | #endif"), "m")
		wantToks(t, one(defs+"#if 1 | a | #elif "+c+" | b | #endif"), "m", "a")
		wantToks(t, one(defs+"#if 0 | #if "+c+" | #elif "+c+" | a | #endif | #endif"), "m", "")
	}
}

// P6.1: conditions come to an end of their own: 20000 steps.
func TestConditionSteps(t *testing.T) {
	defs := doubling(14)
	n := strings.Count(defs, "\n")
	wantFault(t, []api.File{{Name: "m", Data: defs + "#line 5 \"x\"\n#if X14\n#endif\n"}}, "m", api.ErrSteps, "x", 5)
	wantFault(t, []api.File{{Name: "m", Data: defs + "a\nX14\n#endif\n"}}, "m", api.ErrSteps, "m", n+2)
}

// doubling defines X0, which is nothing, and each X that is two of the one ahead.
func doubling(most int) string {
	var b strings.Builder
	b.WriteString("#define X0\n")
	for i := range most {
		fmt.Fprintf(&b, "#define X%d X%d X%d\n", i+1, i, i)
	}
	return b.String()
}

// P6.1: each token with its file and its line.
func TestPlaces(t *testing.T) {
	files := []api.File{
		file("m", "a b", "#include \"h\"", "#define X x __LINE__", "  c\\", "\\", "X /*", "*/ X __FILE__", "#line 70 \"q\"", "X", "#include \"h\"", "y"),
		file("h", "", "d", "#line 5", "e X"),
	}
	l, e, f, n := direct.Process(files, "m")
	want := []api.Tok{
		{Kind: api.TName, S: "a", File: "m", Line: 1, First: true},
		{Kind: api.TName, S: "b", File: "m", Line: 1, Space: true},
		{Kind: api.TName, S: "d", File: "h", Line: 2, First: true},
		{Kind: api.TName, S: "e", File: "h", Line: 5, First: true},
		{Kind: api.TName, S: "X", File: "h", Line: 5, Space: true},
		{Kind: api.TName, S: "cX", File: "m", Line: 4, Space: true, First: true},
		{Kind: api.TName, S: "x", File: "m", Line: 7, Space: true},
		{Kind: api.TNumber, S: "7", File: "m", Line: 7, Space: true},
		{Kind: api.TText, S: `"m"`, File: "m", Line: 7, Space: true},
		{Kind: api.TName, S: "x", File: "q", Line: 70, First: true},
		{Kind: api.TNumber, S: "70", File: "q", Line: 70, Space: true},
		{Kind: api.TName, S: "d", File: "h", Line: 2, First: true},
		{Kind: api.TName, S: "e", File: "h", Line: 5, First: true},
		{Kind: api.TName, S: "x", File: "h", Line: 5, Space: true},
		{Kind: api.TNumber, S: "5", File: "h", Line: 5, Space: true},
		{Kind: api.TName, S: "y", File: "q", Line: 72, First: true},
	}
	if !slices.Equal(l, want) || e != api.OK || f != "" || n != 0 {
		t.Errorf("%s, %d, %q, %d;\nwant %s", show(l), e, f, n, show(want))
	}
	wantBare(t, files, "m")
}

// P6.1: which number the line behind #line has: splices and comments that it has, or that stand ahead of it, or behind, matter.
func TestLine(t *testing.T) {
	for data, want := range map[string]string{
		"#line 7\n__LINE__":                                  "7",
		"#line 7\n\n\n__LINE__":                              "9",
		"#line 7\r\n__LINE__\r__LINE__\n":                    "7 8",
		"#line 1\n__LINE__":                                  "1",
		"#line 007\n__LINE__":                                "7",
		"#line 000000001\n__LINE__":                          "1",
		"#line 999999999\n__LINE__\n__LINE__":                "999999999 1000000000",
		"#line 7\n__LINE__\n#line 3\n__LINE__\n__LINE__":     "7 3 4",
		"a\\\nb\n#line 7\n__LINE__":                          "ab 7",
		"\\\n#line 7\n__LINE__":                              "7",
		"\\\n\\\n\\\n#line 7\n__LINE__":                      "7",
		"#\\\nline 7\n__LINE__":                              "7",
		"#line \\\n7\n__LINE__":                              "7",
		"#line 7\\\n\n__LINE__":                              "7",
		"#line 7\\\r\n \\\r// \\\n\n__LINE__\r\n__LINE__":    "7 8",
		"#li\\\nne 1\\\n2\n\n__LINE__":                       "13",
		"#line 7\na\\\nb __LINE__\n__LINE__":                 "ab 7 9",
		"#line 7\n\\\n__LINE__\n__LINE__":                    "7 9",
		"#line 7 // a\\\nb\n__LINE__":                        "7",
		"#line 7 /* a */\n__LINE__":                          "7",
		"#line 7 /* a\n*/\n__LINE__":                         "7",
		"#line 7 /* a\n\\\n\n*/ /*\n*/ // /*\n__LINE__":      "7",
		"#line 7 /* a\n*/\n/*\n*/ __LINE__":                  "8",
		"#line /*\n*/ 7\n__LINE__":                           "7",
		"# /*\n*/ line 7 /*\n\n*/ \"x\" /*\n*/\n__LINE__":    "7",
		"/* \"\n\" */ #line 7 /*\n*/\n__LINE__":              "7",
		"/*\n// */ #line 7 /*\n'*/\n__LINE__":                "7",
		"/*\n*/ #line 7\n__LINE__\n/*\n*/ #line 9\n__LINE__": "7 9",
		"\"/*\"\n#line 7\n\"*/\" __LINE__":                   `"/*" "*/" 7`,
		"'\"' /* ' */ \"\\\"/*\"\n#line 7 //*\n__LINE__\n#line 20 /*/\n*/\n__LINE__": `'"' "\"/*" 7 20`,
		"#line 7\n#if __LINE__ == 7\n__LINE__\n#endif":                               "8",
		"#line 7": "",
		"#line 7 \"x\"\n__FILE__\n#line 9\n__FILE__ __LINE__":       `"x" "x" 9`,
		"#line 7 \"\"\n__FILE__ __LINE__":                           `"" 7`,
		"__FILE__\n#line 7 \"m\"\n__FILE__":                         `"m" "m"`,
		"#define X __LINE__\n#line 7\nX\\\n X\nX":                   "7 7 9",
		"#define F(a) a __LINE__\n#line 7\nF(\n__LINE__\n)\nF(\n1)": "7 7 1 10",
		"#define S(a) #a\nS(__LINE__) S(__FILE__)":                  `"__LINE__" "__FILE__"`,
		"#define P(a, b) a ## b\nP(__LI, NE__) P(x, __LINE__)":      "2 x__LINE__",
		"#define F(__LINE__) [__LINE__]\nF(x)":                      "[x]",
	} {
		files := []api.File{{Name: "m", Data: data}}
		wantToks(t, files, "m", want)
		wantBare(t, files, "m")
	}
}

// P6.1: a file's name as a text.
func TestFileName(t *testing.T) {
	for name, want := range map[string]string{
		"m":            `"m"`,
		"":             `""`,
		`a"b\c`:        `"a\"b\\c"`,
		`\\""`:         `"\\\\\"\""`,
		"x\ny\x00\xff": "\"x\ny\x00\xff\"",
	} {
		l, e, f, n := direct.Process([]api.File{{Name: name, Data: " __FILE__"}}, name)
		tok := api.Tok{Kind: api.TText, S: want, File: name, Line: 1, Space: true, First: true}
		if !slices.Equal(l, []api.Tok{tok}) || e != api.OK || f != "" || n != 0 {
			t.Errorf("%q: %s, %d, %q, %d", name, show(l), e, f, n)
		}
	}
	// Of a name that #line tells, and of one that is included.
	wantToks(t, []api.File{file("m", `#line 1 "it's"`, "__FILE__", `#include "a/b c"`, "__FILE__"), file("a/b c", "__FILE__")}, "m", `"it's" "a/b c" "it's"`)
}

// P6.1: files that are included.
func TestInclude(t *testing.T) {
	for _, x := range []struct {
		m, h, g string
		want    string
	}{
		{"#include \"h\" | a", "b", "", "b a"},
		{"a | #include \"h\" | c | # /* */ include /* */ \"h\" // | d", "b", "", "a b c b d"},
		{"#include \"h\" | #include \"h\" | a", "#pragma once | b", "", "b a"},
		{"#include \"h\" | #include \"h\" | a", "b | #pragma once | c | #include \"h\" | d", "", "b c d a"},
		{"#include \"h\" | #include \"h\" | a", "#if 0 | #pragma once | #endif | b", "", "b b a"},
		{"#include \"h\" | #include \"h\" | a", "#pragma once x | b | #pragma once2", "", "b b a"},
		{"#pragma once | a | #include \"m\" | b | #include \"h\"", "c | #include \"m\" | d", "", "a b c d"},
		{"#include \"h\" | #include \"g\" | #include \"h\" | #include \"g\"", "#line 1 \"g\" | #pragma once | h", "g", "h g g"},
		{"#define X 1 | #include \"h\" | X Y", "X | #undef X | #define Y 2 | X", "", "1 X X 2"},
		{"#include \"h\" | F | #include \"g\" | F(2)", "#define F(a) [a]", "(1)", "F (1) [2]"},
		{"#if 1 | #include \"h\" | a | #endif", "#if 0 | b | #else | #include \"g\" | #endif", "#if 1 | c | #endif", "c a"},
		{"#if 0 | #include \"h\" | #endif | a", "b", "", "a"},
		{"#include \"h\" | __FILE__ __LINE__", "#line 100 \"z\" | __FILE__ __LINE__ | #include \"g\" | __FILE__ __LINE__", "__FILE__ __LINE__", `"z" 100 "g" 1 "z" 102 "m" 2`},
		{"#line 50 \"h\" | #include \"h\" | __FILE__ __LINE__", "__FILE__ __LINE__", "", `"h" 1 "h" 51`},
		{"#ifndef G | #define G | #include \"h\" | a | #include \"m\" | #endif", "b", "", "b a"},
		{"#include \"h\"", "", "", ""},
		{"#include \"\"", "", "", "e"},
	} {
		files := []api.File{{Name: "m", Data: lines(x.m)}, {Name: "h", Data: lines(x.h)}, {Name: "g", Data: lines(x.g)}, {Name: "h", Data: "#error"}, {Name: "", Data: "e"}, {Name: "m", Data: "#error"}}
		wantToks(t, files, "m", x.want)
		wantBare(t, files, "m")
	}
}

// P6.1: each error, with its file and its line, with and without #line.
func TestFaults(t *testing.T) {
	for _, x := range []struct {
		bad   string
		errno api.Errno
	}{
		{"#foo", api.ErrDirect}, {"#12", api.ErrDirect}, {"# \"if\"", api.ErrDirect}, {"# 'a'", api.ErrDirect}, {"# #", api.ErrDirect}, {"###", 0}, {"# ##", api.ErrDirect}, {"# @", api.ErrDirect}, {"#If 1", api.ErrDirect}, {"#warning", api.ErrDirect}, {"#elifdef X", api.ErrDirect}, {"#define_ X", api.ErrDirect}, {"# 1 \"x\"", api.ErrDirect},
		{"#ifdef", api.ErrDirect}, {"#ifdef 1", api.ErrDirect}, {"#ifdef X Y", api.ErrDirect}, {"#ifdef (X)", api.ErrDirect}, {"#ifdef \"X\"", api.ErrDirect}, {"#ifndef", api.ErrDirect}, {"#ifndef +", api.ErrDirect}, {"#ifndef X 1", api.ErrDirect},
		{"#else x", api.ErrDirect}, {"#endif x", api.ErrDirect}, {"#endif 1 2", api.ErrDirect},
		{"#if 1 | #else x | #endif", -1}, {"#if 0 | #else x | #endif", -1}, {"#if 1 | #endif x", -1}, {"#if 0 | #endif x", -1},
		{"#define", api.ErrDefine}, {"#define 1", api.ErrDefine}, {"#define X+1", api.ErrDefine}, {"#define F(a,a) a", api.ErrDefine}, {"#define F(a) #b", api.ErrDefine}, {"#define X ## a", api.ErrDefine}, {"#define defined 1", api.ErrDefine}, {"#define __VA_ARGS__", api.ErrDefine}, {"#define F(", api.ErrDefine},
		{"#define __LINE__", api.ErrDefine}, {"#define __FILE__ 1", api.ErrDefine}, {"#define __LINE__(a) a", api.ErrDefine}, {"#define __FILE__()", api.ErrDefine}, {"#undef __LINE__", api.ErrDefine}, {"#undef __FILE__", api.ErrDefine},
		{"#define A 2", api.ErrAgain}, {"#define A", api.ErrAgain}, {"#define A() 1", api.ErrAgain}, {"#define A 1", 0},
		{"#undef", api.ErrDirect}, {"#undef 1", api.ErrDirect}, {"#undef A B", api.ErrDirect}, {"#undef __LINE__ x", api.ErrDirect}, {"#undef \"A\"", api.ErrDirect},
		{"#include", api.ErrDirect}, {"#include h", api.ErrDirect}, {"#include <h>", api.ErrDirect}, {"#include \"h\" \"h\"", api.ErrDirect}, {"#include \"h\" x", api.ErrDirect}, {"#include \"h\\\\\"", api.ErrDirect}, {"#include \"\\h\"", api.ErrDirect}, {"#include 'h'", api.ErrDirect}, {"#include __FILE__", api.ErrDirect}, {"#include H", api.ErrDirect},
		{"#include \"no\"", api.ErrInclude}, {"#include \"H\"", api.ErrInclude}, {"#include \" h\"", api.ErrInclude}, {"#include \"\"", api.ErrInclude}, {"#include \"x\"", api.ErrInclude},
		{"#line", api.ErrDirect}, {"#line 0", api.ErrDirect}, {"#line 000000000", api.ErrDirect}, {"#line 1234567890", api.ErrDirect}, {"#line 0000000001", api.ErrDirect}, {"#line 7u", api.ErrDirect}, {"#line 0x7", api.ErrDirect}, {"#line 7.", api.ErrDirect}, {"#line .7", api.ErrDirect}, {"#line 1e5", api.ErrDirect}, {"#line 1_0", api.ErrDirect}, {"#line -7", api.ErrDirect}, {"#line +7", api.ErrDirect}, {"#line 'a'", api.ErrDirect}, {"#line A", api.ErrDirect}, {"#line \"y\"", api.ErrDirect}, {"#line \"y\" 7", api.ErrDirect}, {"#line 7 y", api.ErrDirect}, {"#line 7 8", api.ErrDirect}, {"#line 7 'y'", api.ErrDirect}, {"#line 7 \"y\\\\\"", api.ErrDirect}, {"#line 7 \"y\" \"y\"", api.ErrDirect}, {"#line 7 \"y\" y", api.ErrDirect},
		{"#error", api.ErrError}, {"#error what ( is", api.ErrError}, {"#error once", api.ErrError},
		{"#elif 1", api.ErrIf}, {"#elif 0", api.ErrIf}, {"#else", api.ErrIf}, {"#endif", api.ErrIf},
		{"#if 1", api.ErrIf}, {"#ifdef A", api.ErrIf}, {"#ifndef A", api.ErrIf}, {"#if 0", api.ErrIf},
		{"F(", api.ErrCall}, {"F(1, 2)", api.ErrCall}, {"P(+, /)", api.ErrPaste},
	} {
		ahead := "#define A 1 | #define F(a) a | #define P(a, b) a ## b | #define H \"h\" | "
		behind := ""
		errno, more := x.errno, 0
		if errno < 0 { // the error stands on the second line
			errno, more = api.ErrDirect, 1
		}
		h := file("h", "b")
		for _, x := range []struct {
			files []api.File
			where string
			line  int
		}{
			{append(one(ahead+x.bad+behind), h), "m", 5 + more},
			{append(one(ahead+"#line 70 \"x\" | "+x.bad+behind), h), "x", 70 + more},
			{append(one(ahead+"#line 70 | | a\\ | a | "+x.bad+behind), h), "m", 73 + more},
			{append(one("#include \"i\" | a"), h, file("i", lines(ahead+"a | "+x.bad))), "i", 6 + more},
			{append(one("#line 9 \"i\" | #include \"i\" | a"), h, file("i", lines(ahead+"#line 4 \"x\" | a | "+x.bad))), "x", 5 + more},
			{append(one("#if 1 | #if 0 | #else | "+ahead+x.bad), h), "m", 8 + more},
		} {
			if errno == 0 {
				if _, e, _, _ := direct.Process(x.files, "m"); e != 0 && e != api.ErrIf {
					t.Errorf("%s: %d", showFiles(x.files), e)
				}
			} else if x.line != 8+more || errno != api.ErrIf { // within groups those belong to them
				wantFault(t, x.files, "m", errno, x.where, x.line)
			}
			wantBare(t, x.files, "m")
		}
	}
}

// P6.1: groups that do not belong together.
func TestIf(t *testing.T) {
	for _, x := range []struct {
		s     string
		where string
		line  int
	}{
		{"#if 1 | #endif | #endif", "m", 3},
		{"#if 1 | #else | #else | #endif", "m", 3},
		{"#if 0 | #else | #else | #endif", "m", 3},
		{"#if 1 | #else | #elif 1 | #endif", "m", 3},
		{"#if 1 | #else | #elif 1 / 0 | #endif", "m", 3},
		{"#if 0 | #elif 1 | #else | #elif 1 | #endif", "m", 4},
		{"#if 0 | #if 1 | #else | #else | #endif | #endif", "m", 4},
		{"#if 0 | #if 1 | #else x | #else y | #endif | #endif", "m", 4},
		{"#if 0 | #if 1 | #else | #elif | #endif | #endif", "m", 4},
		{"#if 1 | #else | #if 1 | #else | #else | #endif | #endif", "m", 5},
		{"#if 1 | #if 1 | #endif | #endif | #else", "m", 5},
		{"#if 1", "m", 1},
		{"#if 1 | #if 0 | a", "m", 2},
		{"#if 1 | #if 0 | #endif | a", "m", 1},
		{"#if 0 | #if | #ifdef 1 | a", "m", 3},
		{"#if 0 | #if | #ifdef 1 | #endif x | a", "m", 2},
		{"#if 1 | #elif | #else", "m", 1},
		{"#if 1 | | #ifndef X | #if 0 | #else | #endif | #else", "m", 3},
		{"#line 7 \"x\" | #if 1 | #line 70 \"y\" | #line 80", "y", 7},
		{"#if 1 | #line 70 \"y\" | #if 1 | #line 90 \"z\" | #endif | a", "z", 1},
		{"#if 1 | #line 70 \"y\" | #if 1 | #line 90 \"z\" | a", "z", 70},
		{"#line 7 \"x\" | #elif 1 / 0", "x", 7},
		{"#elif", "m", 1},
		{"#elif F(", "m", 1},
	} {
		wantFault(t, one(x.s), "m", api.ErrIf, x.where, x.line)
		wantBare(t, one(x.s), "m")
	}
	// A group ends in its own file.
	wantFault(t, []api.File{file("m", "#if 1", "#include \"h\""), file("h", "", "#endif")}, "m", api.ErrIf, "h", 2)
	wantFault(t, []api.File{file("m", "#if 1", "#include \"h\"", "#endif"), file("h", "", "#if 1")}, "m", api.ErrIf, "h", 2)
	wantFault(t, []api.File{file("m", "#if 0", "#else", "#include \"h\"", "#endif"), file("h", "#else")}, "m", api.ErrIf, "h", 1)
	wantFault(t, []api.File{file("m", "#include \"h\"", "#if 1"), file("h", "#line 3 \"m\"")}, "m", api.ErrIf, "m", 2)
}

// P6.1: the error that is met first is told.
func TestFirstFault(t *testing.T) {
	for _, x := range []struct {
		s     string
		errno api.Errno
		line  int
	}{
		{"#define F(a) a | F( | #error", api.ErrCall, 2},
		{"#define F(a) a | #error | F(", api.ErrError, 2},
		{"#define F(a) a | a | F( | b", api.ErrCall, 3},
		{"#if 1 | #foo", api.ErrDirect, 2},
		{"#define F(a) a | #if 1 | F(", api.ErrCall, 3},
		{"#endif | #if 1 / 0", api.ErrIf, 1},
		{"#error | \"a", api.ErrQuote, 2},
		{"#error | #if 0 | 'a | #endif", api.ErrQuote, 3},
		{"#error | /* | #foo", api.ErrComment, 2},
		{"#line 70 \"x\" | a ''", api.ErrQuote, 2},
		{"#error it's", api.ErrQuote, 1},
	} {
		wantFault(t, one(x.s), "m", x.errno, "m", x.line)
		wantBare(t, one(x.s), "m")
	}
	// A file is looked at only as it is entered.
	wantFault(t, []api.File{file("m", "#foo", "#include \"h\""), file("h", "'")}, "m", api.ErrDirect, "m", 1)
	wantFault(t, []api.File{file("m", "#line 9 \"x\"", "#include \"h\""), file("h", "", "#line 8 \"y\"", "'")}, "m", api.ErrQuote, "h", 3)
	wantToks(t, []api.File{file("m", "#if 0", "#include \"h\"", "#endif", "a"), file("h", "'")}, "m", "a")
}

// P6.1: the first file is asked for likewise.
func TestFirstFile(t *testing.T) {
	wantFault(t, nil, "m", api.ErrInclude, "m", 0)
	wantFault(t, []api.File{}, "", api.ErrInclude, "", 0)
	wantFault(t, one("a"), "M", api.ErrInclude, "M", 0)
	wantFault(t, one("a"), "", api.ErrInclude, "", 0)
	wantToks(t, []api.File{file("", "a")}, "", "a")
	wantToks(t, []api.File{file("h", "b"), file("m", "a"), file("m", "#error")}, "m", "a")
}

// P6.1: a file has at most 65536 bytes, and 20000 tokens.
func TestLong(t *testing.T) {
	most := strings.Repeat("\n", api.MaxFile-1) + "a"
	wantToks(t, []api.File{{Name: "m", Data: most}}, "m", "a")
	wantFault(t, []api.File{{Name: "m", Data: most + "\n"}}, "m", api.ErrLong, "m", 0)
	wantToks(t, []api.File{file("m", "#include \"h\""), {Name: "h", Data: most}}, "m", "a")
	wantFault(t, []api.File{file("m", "#line 3 \"x\"", "#include \"h\""), {Name: "h", Data: most + "'"}}, "m", api.ErrLong, "h", 0)
	wantFault(t, []api.File{file("m", "#if 0"), {Name: "h", Data: most + "'"}}, "h", api.ErrLong, "h", 0)
	wantToks(t, []api.File{file("m", "b"), {Name: "h", Data: most + "'"}}, "m", "b")

	many := "#if 0\n" + strings.Repeat("x ", api.MaxToks-5) + "\n#endif\n"
	wantToks(t, []api.File{{Name: "m", Data: many}}, "m", "")
	wantFault(t, []api.File{{Name: "m", Data: many + "\ny"}}, "m", api.ErrMany, "m", 5)
	wantFault(t, []api.File{file("m", "#line 3 \"x\"", "#include \"h\""), {Name: "h", Data: many + "\ny"}}, "m", api.ErrMany, "h", 5)
}

// P6.1: at most 20000 tokens are told, by all runs.
func TestMany(t *testing.T) {
	half := strings.Repeat("x ", 9990)
	h := api.File{Name: "h", Data: half}
	fill := func(n int) string { return strings.Repeat("y ", n) }
	wantToks(t, []api.File{file("m", "#include \"h\"", "#include \"h\"", fill(20)), h}, "m", half+half+strings.TrimSpace(fill(20)))
	wantToks(t, []api.File{file("m", "#include \"h\"", fill(10), "#include \"h\"", "#include \"h\""), file("h", "#if 0", "#endif"), h}, "m", strings.TrimSpace(fill(10)))
	wantFault(t, []api.File{file("m", "#include \"h\"", "#include \"h\"", "", fill(1), fill(20)), h}, "m", api.ErrMany, "m", 4)
	wantFault(t, []api.File{file("m", "#include \"h\"", "#include \"h\"", "#line 40 \"x\"", "", fill(20), "#", "#", "a", "b"), h}, "m", api.ErrMany, "x", 44)
	wantFault(t, []api.File{file("m", fill(11), fill(10), "#include \"h\"", "#include \"h\""), h}, "m", api.ErrMany, "h", 1)
	wantToks(t, []api.File{file("m", "#include \"h\"", "#include \"h\"", fill(20), "#define X", "X"), h}, "m", half+half+strings.TrimSpace(fill(20)))
	wantFault(t, []api.File{file("m", "#include \"h\"", "#include \"h\"", fill(20), "#define X a", "", "X"), h}, "m", api.ErrMany, "m", 6)

	// What a macro comes to counts, not its name.
	defs := "#define A " + strings.Repeat("1 ", 499) + "\n"
	as := func(n int) string { return defs + strings.Repeat("A\n", n) }
	l, e, _, _ := direct.Process([]api.File{{Name: "m", Data: as(40)}}, "m")
	if len(l) != 19960 || e != api.OK {
		t.Error(len(l), e)
	}
	wantFault(t, []api.File{{Name: "m", Data: as(40) + "1\n" + fill(41)}}, "m", api.ErrMany, "m", 2)
	wantFault(t, []api.File{{Name: "m", Data: as(41)}}, "m", api.ErrSteps, "m", 42)
	wantFault(t, []api.File{{Name: "m", Data: as(20) + "#\n\n" + strings.Repeat("A\n", 21)}}, "m", api.ErrMany, "m", 24)
	l, e, _, _ = direct.Process([]api.File{{Name: "m", Data: as(20) + "#\n\n" + strings.Repeat("A\n", 20) + fill(40)}}, "m")
	if len(l) != 20000 || e != api.OK {
		t.Error(len(l), e)
	}
}

// P6.1: at most 1000 macros.
func TestManyMacros(t *testing.T) {
	var b strings.Builder
	for i := range api.MaxMacros {
		fmt.Fprintf(&b, "#define A%d\n", i)
	}
	full := b.String()
	wantToks(t, []api.File{{Name: "m", Data: full + "#define A7\n#undef A3\n#define B\nA7 A3 B"}}, "m", "A3")
	wantFault(t, []api.File{{Name: "m", Data: full + "#define A7\n#define B"}}, "m", api.ErrMany, "m", 1002)
	wantFault(t, []api.File{file("m", "#include \"h\"", "#line 9 \"x\"", "#define B"), {Name: "h", Data: full}}, "m", api.ErrMany, "x", 9)
	wantFault(t, []api.File{{Name: "m", Data: full + "#define A7 1"}}, "m", api.ErrAgain, "m", 1001)
	wantFault(t, []api.File{{Name: "m", Data: full + "#define __LINE__"}}, "m", api.ErrDefine, "m", 1001)
}

// chain are files, each of which includes the next one: the last one says what it is handed.
func chain(n int, last string) []api.File {
	var l []api.File
	for i := range n {
		l = append(l, file(fmt.Sprint("f", i), fmt.Sprint("a", i), fmt.Sprintf("#include \"f%d\"", i+1), "b"))
	}
	return append(l, file(fmt.Sprint("f", n), last))
}

// P6.1: a file is entered within at most 32 others.
func TestDepth(t *testing.T) {
	var ahead, behind []string
	for i := range api.MaxDepth {
		ahead, behind = append(ahead, fmt.Sprint("a", i)), append(behind, "b")
	}
	wantToks(t, chain(32, "x"), "f0", strings.Join(ahead, " ")+" x "+strings.Join(behind, " "))
	wantFault(t, chain(33, "x"), "f0", api.ErrDepth, "f32", 2)
	wantToks(t, chain(33, "x"), "f1", strings.Join(ahead, " ")[3:]+" a32 x "+strings.Join(behind, " "))
	wantFault(t, chain(32, "#line 5 \"x\"\n\n#include \"f0\""), "f0", api.ErrDepth, "x", 6)
	wantFault(t, chain(32, "#include \"no\""), "f0", api.ErrInclude, "f32", 1)
	wantFault(t, []api.File{file("m", "", "#include \"m\"")}, "m", api.ErrDepth, "m", 2)
	wantToks(t, append([]api.File{file("m", "#include \"once\"", "#include \"f0\"")}, append(chain(31, "#include \"once\""), file("once", "#pragma once", "x"))...), "m",
		"x "+strings.Join(ahead[:31], " ")+" "+strings.Join(behind[:31], " "))
	for n := 30; n < 36; n++ {
		wantBare(t, chain(n, "x"), "f0")
		wantBare(t, chain(n, "#include \"f0\""), "f0")
	}
}

// P6.1: at most 200 files are entered, the first one too; those that are not read once more do not count.
func TestEnter(t *testing.T) {
	h, once := file("h", "x"), file("o", "#pragma once", "y")
	many := func(n int, name string) []string { return slices.Repeat([]string{"#include \"" + name + "\""}, n) }
	xs := func(n int) string { return strings.TrimSpace(strings.Repeat("x ", n)) }
	wantToks(t, []api.File{file("m", many(199, "h")...), h}, "m", xs(199))
	wantFault(t, []api.File{file("m", many(200, "h")...), h}, "m", api.ErrDepth, "m", 200)
	wantFault(t, []api.File{file("m", append(many(199, "h"), "#line 7 \"x\"", "", "#include \"h\"")...), h}, "m", api.ErrDepth, "x", 8)
	wantFault(t, []api.File{file("m", append(many(199, "h"), "#include \"no\"")...), h}, "m", api.ErrInclude, "m", 200)
	wantToks(t, []api.File{file("m", append(many(500, "o"), many(198, "h")...)...), h, once}, "m", "y "+xs(198))
	wantToks(t, []api.File{file("m", append(append(many(1, "o"), many(198, "h")...), many(500, "o")...)...), h, once}, "m", "y "+xs(198))
	wantFault(t, []api.File{file("m", append(many(199, "h"), "#include \"o\"")...), h, once}, "m", api.ErrDepth, "m", 200)
	wantFault(t, []api.File{file("m", append(many(500, "o"), many(199, "h")...)...), h, once}, "m", api.ErrDepth, "m", 699)
	// Those that others include count, too.
	wantToks(t, []api.File{file("m", append(many(66, "g"), "#include \"h\"")...), file("g", many(2, "h")...), h}, "m", xs(133))
	wantFault(t, []api.File{file("m", many(67, "g")...), file("g", many(2, "h")...), h}, "m", api.ErrDepth, "g", 1)
	wantFault(t, []api.File{file("m", "#include \"m\"", "#include \"m\"")}, "m", api.ErrDepth, "m", 1)
}

// every hands on all lists of at most so many pieces.
func every(pieces []string, most int, begin []string, check func([]string)) {
	check(begin)
	if most == 0 {
		return
	}
	for _, p := range pieces {
		every(pieces, most-1, append(slices.Clip(begin), p), check)
	}
}

// P6.1: all short files of directives of groups.
func TestEveryGroup(t *testing.T) {
	pieces := []string{"#if 0", "#if 1", "#if", "#elif 1", "#elif 1 / 0", "#else", "#else x", "#endif", "#endif x", "a", "#foo"}
	every(pieces, 4, nil, func(l []string) {
		if !t.Failed() {
			wantBare(t, []api.File{file("m", l...)}, "m")
			wantBare(t, []api.File{file("m", slices.Concat([]string{"#if 0", "#if 1"}, l)...)}, "m")
			wantBare(t, []api.File{file("m", slices.Concat([]string{"#if 1", "b"}, l, []string{"#endif", "c"})...)}, "m")
		}
	})
}

// P6.1: all short files of #line, splices, comments.
func TestEveryLine(t *testing.T) {
	pieces := []string{"#line 7", "#line 70 \"x\"", "__LINE__", "F(__FILE__", ")", "/*", "*/", "#if 1", "#error", "\n", "\\\n", " ", "\r\n"}
	check := func(l []string) {
		if !t.Failed() {
			wantBare(t, []api.File{{Name: "m", Data: "#define F(a) __LINE__ a\n" + strings.Join(l, "")}}, "m")
			wantBare(t, []api.File{file("m", l...)}, "m")
		}
	}
	every(pieces, 4, nil, check)
	every([]string{"/*", "*/", "\n", "\\\n", "\n__LINE__"}, 6, []string{"#line 7"}, check)
	every([]string{"/*", "*/", "\n", "\"", "'", "//", "\n#line 7"}, 5, nil, func(l []string) { check(append(slices.Clip(l), "\n__LINE__")) })
}

// P6.1: all short pairs of files that include each other, and define macros.
func TestEveryInclude(t *testing.T) {
	pieces := []string{"#include \"h\"", "#include \"m\"", "#pragma once", "#define X 1", "#undef X", "#ifndef X", "#endif", "X", "#line 50 \"h\"", "__FILE__ __LINE__"}
	every(pieces, 4, nil, func(l []string) {
		for i := range len(l) + 1 {
			if !t.Failed() {
				wantBare(t, []api.File{file("m", l[:i]...), file("h", l[i:]...)}, "m")
			}
		}
	})
}

// P6.2: a file without `#`, and without macros, is its tokens.
func TestPlain(t *testing.T) {
	for _, data := range []string{"", "a", " a  b\n\n/* c */ d // e\n'f' \"g\" 1.5e+3 @ ->", "x\\\ny z\r\n\r__LINE_ \"#\" '#' /* # */ // #", "defined if else", "\"__LINE__\" __line__ 1__LINE__"} {
		ls, _ := text.Lines(data)
		want, _, _ := token.Lex(ls)
		for i := range want {
			want[i].File = "m"
		}
		l, e, f, n := direct.Process([]api.File{{Name: "h", Data: "#define a b"}, {Name: "m", Data: data}}, "m")
		if !slices.Equal(l, want) || e != api.OK || f != "" || n != 0 {
			t.Errorf("%q: %s, %d, %q, %d; want %s", data, show(l), e, f, n, show(want))
		}
	}
}

// P6.2: a skipped group makes no difference, whatever is in it.
func TestSkippedGroup(t *testing.T) {
	pieces := []string{"a", "#error", "#if", "#endif x", "#define X 2", "#include \"m\"", "#line 5 \"x\"", "#pragma once"}
	every(pieces, 4, nil, func(l []string) {
		deep := 0
		for _, s := range l {
			switch s {
			case "#if":
				deep++
			case "#endif x":
				deep--
			}
			if deep < 0 {
				return
			}
		}
		if deep != 0 || t.Failed() {
			return
		}
		with := slices.Concat([]string{"b", "#define X 1", "#if 0"}, l, []string{"#endif", "X __FILE__ __LINE__"})
		without := slices.Concat([]string{"b", "#define X 1", "#"}, slices.Repeat([]string{""}, len(l)), []string{"#", "X __FILE__ __LINE__"})
		got, e, _, _ := direct.Process([]api.File{file("m", with...)}, "m")
		want, _, _, _ := direct.Process([]api.File{file("m", without...)}, "m")
		if !slices.Equal(got, want) || e != api.OK {
			t.Errorf("%q: %s, %d; want %s", with, show(got), e, show(want))
		}
	})
}

// P6.2: text that is included is what it is where it is included.
func TestIncludedText(t *testing.T) {
	pieces := []string{"X", "F(", ")", "#define X 1", "#undef X", "#if X", "#endif", "#", "F X"}
	every(pieces, 4, nil, func(l []string) {
		if t.Failed() {
			return
		}
		ahead := []string{"#define F(a) [a]", "X", "#"}
		got, e, _, n := direct.Process([]api.File{file("m", slices.Concat(ahead, []string{"#include \"h\"", "X"})...), file("h", l...)}, "m")
		want, errno, _, line := direct.Process([]api.File{file("m", slices.Concat(ahead, l, []string{"#", "X"})...)}, "m")
		if errno == api.ErrIf { // a group ends in its own file
			return
		}
		if e != errno || e != api.OK && n != line-3 || spelt(got) != spelt(want) {
			t.Errorf("%q: %s, %d, %d; want %s, %d, %d", l, show(got), e, n, show(want), errno, line)
		}
	})
}

// Rule R3: what is handed in stays as it is, spare room too; an answer is its caller's own; nil and empty are one.
func TestMemory(t *testing.T) {
	room := []api.File{file("m", "#define X a b", "X #include", "#include \"h\""), file("h", "X"), file("h", "c")}
	before := slices.Clone(room)
	l, _, _, _ := direct.Process(room[:2], "m")
	if !slices.Equal(room, before) {
		t.Error(showFiles(room))
	}
	want := slices.Clone(l)
	for i := range l[:cap(l)] {
		l[:cap(l)][i] = api.Tok{S: "z"}
	}
	again, _, _, _ := direct.Process(room[:2], "m")
	if !slices.Equal(again, want) {
		t.Errorf("%s; want %s", show(again), show(want))
	}
}

// Rule R4: an answer hangs on nothing that an earlier call was given.
func TestKeepsNothing(t *testing.T) {
	direct.Process([]api.File{file("m", "#pragma once", "#define X 1", "#line 7", "#include \"m\"")}, "m")
	wantToks(t, one("X __LINE__"), "m", "X 1")
}

// Rule R5: groups nest as deep as files let them.
func TestDeepGroups(t *testing.T) {
	n := api.MaxFile / 18
	data := strings.Repeat("#if 1\n", n) + "a\n" + strings.Repeat("#endif\n", n)
	wantToks(t, []api.File{{Name: "m", Data: data}}, "m", "a")
	wantToks(t, []api.File{{Name: "m", Data: "#if 0\n" + data + "#endif"}}, "m", "")
	wantFault(t, []api.File{{Name: "m", Data: strings.TrimSuffix(data, "#endif\n")}}, "m", api.ErrIf, "m", 1)
}

// Rule R1: no text makes it panic, or go on; rule R2: nothing is told beside an error.
func FuzzAny(f *testing.F) {
	for _, s := range []string{
		"#", "#\\", "#if", "#if defined(", "#include \"", "#include \"h", "#line 7 \"", "#define F(", "#define F(a) a\nF(\n#", "#pragma once\n#include \"m\"\n",
		"#include \"h\"\x02#include \"m\"", "#if 1\x02#endif", "#define A B\n#define B A\nA B\x02", "'", "/*", "#line 7 /*\n*/\n__LINE__", "\x00#\xff", "#if __FILE__", "##\n###\n#",
	} {
		f.Add(s)
	}
	f.Fuzz(func(t *testing.T, s string) {
		m, h, _ := strings.Cut(s, "\x02")
		files := []api.File{{Name: "m", Data: m}, {Name: "h", Data: h}}
		l, e, where, line := direct.Process(files, "m")
		if e != api.OK && len(l) != 0 || e == api.OK && (where != "" || line != 0) || line < 0 {
			t.Errorf("%q: %s, %d, %q, %d", s, show(l), e, where, line)
		}
		if !strings.Contains(s, "\x01") {
			wantBare(t, files, "m")
		}
	})
}

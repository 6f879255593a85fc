package lex_test

import (
	"fmt"
	"slices"
	"strconv"
	"strings"
	"testing"

	"burin/api"
	"burin/direct"
	"burin/lex"
	"burin/text"
	"burin/token"
)

const mostText = 4096

var keys = strings.Fields(bareKeys)

var signs = strings.Fields(bareSigns)

var suffixes = []string{
	"", "u", "U", "l", "L", "ll", "LL", "ul", "uL", "Ul", "UL", "ull", "uLL", "Ull", "ULL", "lu", "lU", "Lu", "LU", "llu", "llU", "LLu", "LLU",
}

// kinds are those of all tokens, and others.
var kinds = []int{api.TName, api.TNumber, api.TChar, api.TText, api.TPunct, api.TOther, 0, 7, -1, 1 << 40}

func key(s string) api.Word   { return api.Word{Kind: api.WKey, S: s} }
func name(s string) api.Word  { return api.Word{Kind: api.WName, S: s} }
func sign(s string) api.Word  { return api.Word{Kind: api.WPunct, S: s} }
func texts(s string) api.Word { return api.Word{Kind: api.WText, S: s} }
func integer(v int64, kind int) api.Word {
	return api.Word{Kind: api.WInt, V: v, T: kind}
}

// toks are a line's tokens, each of which has a place of its own.
func toks(t *testing.T, s string) []api.Tok {
	t.Helper()
	l, e, _ := token.Lex([]api.Line{{N: 1, S: s}})
	if e != api.OK {
		t.Fatalf("Lex(%.200q): %d", s, e)
	}
	for i := range l {
		l[i].File, l[i].Line = "f"+strconv.Itoa(i), 100+i
	}
	return l
}

// show keeps a failure of a long list readable.
func show(l any) string { return fmt.Sprintf("%.400s", fmt.Sprintf("%+v", l)) }

// unplaced are words without File and Line.
func unplaced(l []api.Word) []api.Word {
	l = slices.Clone(l)
	for i := range l {
		l[i].File, l[i].Line = "", 0
	}
	return l
}

// wantWords looks at words without their places.
func wantWords(t *testing.T, l []api.Tok, want ...api.Word) {
	t.Helper()
	told, e, f, n := lex.Words(l)
	if !slices.Equal(unplaced(told), want) || e != api.OK || f != "" || n != 0 {
		t.Errorf("%s: %s, %d, %q, %d; want %s", show(l), show(told), e, f, n, show(want))
	}
}

// wantNone looks for the place of the token that comes to none.
func wantNone(t *testing.T, l []api.Tok, at int) {
	t.Helper()
	told, e, f, n := lex.Words(l)
	if len(told) != 0 || e != api.ErrWord || f != l[at].File || n != l[at].Line {
		t.Errorf("%s: %s, %d, %q, %d; want %q, %d", show(l), show(told), e, f, n, l[at].File, l[at].Line)
	}
}

// wantBare holds an answer against the second reading, and what it tells against Right.
func wantBare(t *testing.T, l []api.Tok) {
	t.Helper()
	want, bad := bareWords(l)
	if bad >= 0 {
		wantNone(t, l, bad)
		return
	}
	told, e, f, n := lex.Words(l)
	if !slices.Equal(told, want) || e != api.OK || f != "" || n != 0 {
		t.Errorf("%s: %s, %d, %q, %d; want %s", show(l), show(told), e, f, n, show(want))
	}
	for _, w := range told {
		if !lex.Right(w) {
			t.Errorf("%s comes of %s, and is not right", show(w), show(l))
		}
	}
}

func wantShown(t *testing.T, l []api.Word, want string) {
	t.Helper()
	if s, e := lex.Show(l); s != want || e != api.OK {
		t.Errorf("%s: %.300q, %d; want %.300q", show(l), s, e, want)
	}
}

func wantRefused(t *testing.T, l []api.Word) {
	t.Helper()
	if s, e := lex.Show(l); s != "" || e != api.ErrArg {
		t.Errorf("%s: %.300q, %d", show(l), s, e)
	}
}

// wantBack holds words against those that what is shown of them comes to.
func wantBack(t *testing.T, l []api.Word) {
	t.Helper()
	s, e := lex.Show(l)
	if e != api.OK {
		t.Errorf("%s is refused: %d", show(l), e)
		return
	}
	wantWords(t, toks(t, s), unplaced(l)...)
}

// every hands on all lists that are at most so many of the pieces.
func every[T any](pieces []T, most int, begin []T, check func([]T)) {
	check(begin)
	if most == 0 {
		return
	}
	for _, p := range pieces {
		every(pieces, most-1, append(begin[:len(begin):len(begin)], p), check)
	}
}

// P7.1: the key words, and what is near them.
func TestIsKey(t *testing.T) {
	if len(keys) != 16 {
		t.Fatal(keys)
	}
	for _, s := range keys {
		if !lex.IsKey(s) {
			t.Errorf("%q is no key word", s)
		}
		for _, other := range []string{
			strings.ToUpper(s), strings.ToUpper(s[:1]) + s[1:], s[1:], s[:len(s)-1], s + "s", "_" + s, s + " ", " " + s, s + "\x00", s + s, s + "\n",
		} {
			if lex.IsKey(other) {
				t.Errorf("%q is a key word", other)
			}
		}
	}
	for _, s := range strings.Fields("auto case const default do double enum float for goto inline register restrict sizeof static switch typedef volatile _Bool bool defined main x 1 + \"int\" 'int'") {
		if lex.IsKey(s) {
			t.Errorf("%q is a key word", s)
		}
	}
	if lex.IsKey("") || lex.IsKey("int long") {
		t.Error("no name, or two")
	}
}

// P7.1: the chapter's examples.
func TestExamples(t *testing.T) {
	wantWords(t, toks(t, `int x1 0x80000000 5ul 'a'`), key("int"), name("x1"), integer(2147483648, api.KUInt), integer(5, api.KULong), integer(97, api.KInt))
	wantWords(t, toks(t, `"a\x41" "b"`), texts("aAb"))
	wantWords(t, toks(t, "2147483648"), integer(2147483648, api.KLong))
	for _, s := range []string{"9223372036854775808", "08", "#"} {
		wantNone(t, toks(t, s), 0)
	}
	wantWords(t, nil)
	wantWords(t, []api.Tok{})
}

// P7.1: names, key words and signs.
func TestNamesAndSigns(t *testing.T) {
	for _, s := range keys {
		wantWords(t, toks(t, s), key(s))
	}
	for _, s := range []string{"a", "_", "x1", "Int", "ints", "_int", "for", "sizeof", "__LINE__", "u8", "L", "Z_9", strings.Repeat("long", 20000)} {
		wantWords(t, toks(t, s), name(s))
	}
	if len(signs) != 46 {
		t.Error(signs)
	}
	for _, s := range signs {
		wantWords(t, toks(t, s), sign(s))
	}
	wantWords(t, toks(t, "while(a<<=b)x=-1;"),
		key("while"), sign("("), name("a"), sign("<<="), name("b"), sign(")"), name("x"), sign("="), sign("-"), integer(1, api.KInt), sign(";"))
}

// P7.1: the kinds of numbers at their ends, of each suffix, decimal or not.
func TestNumbers(t *testing.T) {
	for s, want := range map[string]api.Word{
		"0":                       integer(0, api.KInt),
		"00":                      integer(0, api.KInt),
		"0u":                      integer(0, api.KUInt),
		"0l":                      integer(0, api.KLong),
		"0LLU":                    integer(0, api.KULong),
		"2147483647":              integer(1<<31-1, api.KInt),
		"2147483648":              integer(1<<31, api.KLong),
		"4294967295":              integer(1<<32-1, api.KLong),
		"4294967296":              integer(1<<32, api.KLong),
		"9223372036854775807":     integer(1<<63-1, api.KLong),
		"2147483648u":             integer(1<<31, api.KUInt),
		"4294967295U":             integer(1<<32-1, api.KUInt),
		"4294967296u":             integer(1<<32, api.KULong),
		"9223372036854775808u":    integer(-1<<63, api.KULong),
		"18446744073709551615u":   integer(-1, api.KULong),
		"18446744073709551615uLL": integer(-1, api.KULong),
		"9223372036854775807ll":   integer(1<<63-1, api.KLong),
		"1L":                      integer(1, api.KLong),
		"0x7fffffff":              integer(1<<31-1, api.KInt),
		"0x80000000":              integer(1<<31, api.KUInt),
		"0xffffffff":              integer(1<<32-1, api.KUInt),
		"0x100000000":             integer(1<<32, api.KLong),
		"0x7fffffffffffffff":      integer(1<<63-1, api.KLong),
		"0X8000000000000000":      integer(-1<<63, api.KULong),
		"0xFFFFFFFFFFFFFFFF":      integer(-1, api.KULong),
		"0x80000000l":             integer(1<<31, api.KLong),
		"0x8000000000000000LL":    integer(-1<<63, api.KULong),
		"0x1u":                    integer(1, api.KUInt),
		"0x100000000u":            integer(1<<32, api.KULong),
		"0x1lu":                   integer(1, api.KULong),
		"017777777777":            integer(1<<31-1, api.KInt),
		"020000000000":            integer(1<<31, api.KUInt),
		"040000000000":            integer(1<<32, api.KLong),
		"01000000000000000000000": integer(-1<<63, api.KULong),
		"0x00000000000000000001":  integer(1, api.KInt),
	} {
		wantWords(t, toks(t, s), want)
	}
	for _, s := range []string{
		"9223372036854775808", "9223372036854775808l", "18446744073709551615", "18446744073709551615LL",
		"18446744073709551616", "18446744073709551616u", "0x10000000000000000", "02000000000000000000000", "08", "0x", "0xg", "1.5", ".5", "1e+5", "1ulu", "1lL", "1f", "0b1", "1_000", "12a",
	} {
		wantNone(t, toks(t, s), 0)
	}
}

// P7.1: numbers at and round the ends, in all bases, with all suffixes.
func TestEveryNumber(t *testing.T) {
	var values []uint64
	for _, end := range []uint{0, 7, 8, 15, 16, 31, 32, 62, 63} {
		for _, more := range []uint64{0, 1, 2} {
			values = append(values, 1<<end+more-1)
		}
	}
	values = append(values, 1<<64-2, 1<<64-1)
	for _, v := range values {
		for _, s := range []string{strconv.FormatUint(v, 10), "0" + strconv.FormatUint(v, 8), "0x" + strconv.FormatUint(v, 16), "0X00" + strings.ToUpper(strconv.FormatUint(v, 16)), "000" + strconv.FormatUint(v, 8)} {
			for _, suffix := range suffixes {
				wantBare(t, toks(t, s+suffix))
			}
			for _, suffix := range []string{"lul", "uu", "lL", "z", "x", ".", "e+1", "Ll"} {
				wantNone(t, toks(t, s+suffix), 0)
			}
		}
	}
}

// P7.1: characters, also below 0, are ints.
func TestChars(t *testing.T) {
	for c := range 256 {
		worth := int64(int8(c))
		wantWords(t, toks(t, fmt.Sprintf(`'\%03o'`, c)), integer(worth, api.KInt))
		wantWords(t, toks(t, fmt.Sprintf(`'\%o'`, c)), integer(worth, api.KInt))
		wantWords(t, toks(t, fmt.Sprintf(`'\x%x'`, c)), integer(worth, api.KInt))
		wantBare(t, []api.Tok{{Kind: api.TChar, S: "'" + string([]byte{byte(c)}) + "'", File: "f", Line: 5}})
		wantBare(t, []api.Tok{{Kind: api.TChar, S: `'\` + string([]byte{byte(c)}) + "'", File: "f", Line: 5}})
	}
	wantWords(t, toks(t, `'\377' '\200' '\177' '\0' '"' '\''`),
		integer(-1, api.KInt), integer(-128, api.KInt), integer(127, api.KInt), integer(0, api.KInt), integer('"', api.KInt), integer('\'', api.KInt))
	for _, s := range []string{"'ab'", `'\q'`, `'\400'`, `'\x100'`, `'\x'`, `'\8'`, `'\0000'`, "'\n'", "'\r'"} {
		wantNone(t, toks(t, s), 0)
	}
}

// P7.1: the bytes of texts, and of their escapes.
func TestTexts(t *testing.T) {
	for s, want := range map[string]string{
		`""`:                       "",
		`"abc"`:                    "abc",
		`"it's // no /* comment"`:  "it's // no /* comment",
		`"\n\t\v\b\r\f\a\\\'\"\?"`: "\n\t\v\b\r\f\a\\'\"?",
		`"\0"`:                     "\x00",
		`"\18\1234\08"`:            "\x018S4\x008",
		`"\377\x0\xfF"`:            "\xff\x00\xff",
		`"\x41g\x41\x41"`:          "AgAA",
		`"\x` + strings.Repeat("0", 5000) + `7f"`: "\x7f",
		"\"\t\xff\x00\"": "\t\xff\x00",
		`"\\n"`:          `\n`,
		`"\\\\"`:         `\\`,
	} {
		wantWords(t, toks(t, s), texts(want))
	}
	for _, s := range []string{`"\q"`, `"\8"`, `"\400"`, `"\777"`, `"\x"`, `"\xg"`, `"\x100"`, `"\x414"`, `"\X41"`, `"\N"`, `"\u0041"`, `"ab\ c"`, "\"a\nb\"", "\"a\rb\"", "\"\\\n\""} {
		wantNone(t, toks(t, s), 0)
	}
	for c := range 256 {
		one := string([]byte{byte(c)})
		for _, s := range []string{one, `\` + one, `\\` + one, `\` + one + "1", `\x` + one, `\1` + one, `\12` + one, `\123` + one} {
			wantBare(t, []api.Tok{{Kind: api.TText, S: `"` + s + `"`, File: "f", Line: 7}})
		}
	}
}

// P7.1: texts that stand one behind the other are one; an escape does not go on in the next one.
func TestTextsTogether(t *testing.T) {
	wantWords(t, toks(t, `"a" "b""c" x "d" "" + ""`), texts("abc"), name("x"), texts("d"), sign("+"), texts(""))
	wantWords(t, toks(t, `"\x4" "1" "\1" "1"`), texts("\x041\x011"))
	wantWords(t, toks(t, strings.Repeat(`"" `, 9999)), texts(""))
	l := toks(t, `"a" "b" x "c"`)
	want := []api.Word{{Kind: api.WText, S: "ab", File: "f0", Line: 100}, {Kind: api.WName, S: "x", File: "f2", Line: 102}, {Kind: api.WText, S: "c", File: "f3", Line: 103}}
	if told, _, _, _ := lex.Words(l); !slices.Equal(told, want) {
		t.Errorf("%s; want %s", show(told), show(want))
	}
	wantNone(t, toks(t, `x "a" "b" "\q" "c"`), 3)
	wantNone(t, toks(t, `"a" "b" @`), 2)
}

// P7.1: a text of the greatest length, and of one byte more, alone and of several tokens.
func TestLongTexts(t *testing.T) {
	quoted := func(n int) string { return `"` + strings.Repeat("b", n) + `"` }
	most := strings.Repeat("b", mostText)
	wantWords(t, toks(t, quoted(mostText)), texts(most))
	wantWords(t, toks(t, quoted(mostText)+`""`), texts(most))
	wantWords(t, toks(t, quoted(mostText-1)+`"b"`), texts(most))
	wantWords(t, toks(t, `"" "b"`+quoted(mostText-1)), texts(most))
	wantWords(t, toks(t, strings.Repeat(`"b" `, mostText)), texts(most))
	wantWords(t, toks(t, `"`+strings.Repeat(`\142`, mostText)+`"`), texts(most))
	wantWords(t, toks(t, quoted(mostText)+"x"+quoted(mostText)), texts(most), name("x"), texts(most))

	wantNone(t, toks(t, quoted(mostText+1)), 0)
	wantNone(t, toks(t, `"`+strings.Repeat(`\x62`, mostText)+`\n"`), 0)
	wantNone(t, toks(t, "x + "+quoted(mostText)+`"" "b"`), 2)
	wantNone(t, toks(t, "x "+strings.Repeat(`"b" `, mostText+1)), 1)
	wantNone(t, toks(t, quoted(5)+"x"+quoted(1)+quoted(mostText)), 2)
	// What stands behind makes a text that is too long no shorter.
	wantNone(t, toks(t, "x"+quoted(1)+quoted(mostText)+`"\q" @`), 1)
	wantNone(t, toks(t, quoted(1)+`"\q"`+quoted(mostText)), 1)
}

// P7.1: each kind of token that comes to none, its File and Line, wherever it stands.
func TestNone(t *testing.T) {
	long := `"` + strings.Repeat("c", mostText+1) + `"`
	var wrong []api.Tok
	for kind, l := range map[int][]string{
		api.TName:   {"", "1", "1a", "a b", " a", "a ", "a+", "a.", "+", "'a'", `"a"`, "a\n", "\xe9", "int long", "int ", "a/**/", "//", "a//"},
		api.TNumber: {"", "x", "9223372036854775808", "18446744073709551616u", "08", "0x", "1.5", "1 ", " 1", "-1", "+1", "1_0", "'1'", "int"},
		api.TChar:   {"", "'", "''", "a", "'ab'", `'\q'`, `'\'`, "'a", "a'", `"a"`, "'''", "'\n'", "'\r'", "'a' "},
		api.TText:   {"", `"`, `"a`, `a"`, "a", `""a`, `a""`, `"" `, ` ""`, `"a"b"`, `"a""b"`, `"\"`, `"\\\"`, `"\q"`, `"\x"`, `"\400"`, "\"\n\"", "\"\r\"", "'a'", "int", long},
		api.TPunct:  {"", "#", "##", "@", "$", "`", "\\", "\"", "'", "a", "1", "+ ", " +", "+-", "()", "..", "::", "->*", "//", "/*", "###", "#@", "\x00", "=>", "<<<"},
		api.TOther:  {"", "@", "$", "`", "\\", "a", "1", "+", "int", `""`, "\xff", "\n"},
		0:           {"", "a", "int", "1", "+", "'a'", `"a"`},
		7:           {"", "a", "int", "1", "+", "'a'", `"a"`},
		-1:          {"", "a", "int", "1", "+", "'a'", `"a"`},
	} {
		for _, s := range l {
			wrong = append(wrong, api.Tok{Kind: kind, S: s})
		}
	}
	for _, w := range wrong {
		wantNone(t, []api.Tok{w}, 0)
		for _, line := range []string{"", "a", "'a'", "1 + int", `x "b"`, `"a" "b" y`} {
			l := toks(t, line)
			for i := range len(l) + 1 {
				at := api.Tok{Kind: w.Kind, S: w.S, File: "wrong", Line: -5, Space: true, First: true}
				both := slices.Insert(slices.Clone(l), i, at)
				bad := i
				for w.S == long && bad > 0 && both[bad-1].Kind == api.TText { // its first token
					bad--
				}
				wantNone(t, both, bad)
				wantNone(t, append(both, api.Tok{Kind: api.TOther, S: "@", File: "later", Line: 99}), bad)
				wantBare(t, both)
			}
		}
	}
}

// P7.1: a token's File and Line are its word's, whatever they are; nothing else of it counts.
func TestPlaces(t *testing.T) {
	l := toks(t, `int x 5u 'a' "b" "c" ;`)
	for i := range l {
		l[i].Space, l[i].First = i%2 == 0, i%3 == 0
		l[i].Line = (i - 2) * 1 << 40
		if i == 1 {
			l[i].File = ""
		}
	}
	told, e, _, _ := lex.Words(l)
	if len(told) != 6 || e != api.OK {
		t.Fatal(told, e)
	}
	for i, from := range []int{0, 1, 2, 3, 4, 6} {
		if told[i].File != l[from].File || told[i].Line != l[from].Line {
			t.Errorf("%s of %s", show(told[i]), show(l[from]))
		}
	}
}

// P7.1: all short lists of tokens, each spelling under each kind, against the second reading.
func TestEveryShortList(t *testing.T) {
	spellings := []string{"int", "x", "5", "08", "'a'", "'ab'", `"b"`, `"\x4"`, `"\q"`, "+", "#", "@", ""}
	var all []api.Tok
	for _, kind := range kinds {
		for _, s := range spellings {
			all = append(all, api.Tok{Kind: kind, S: s, File: s, Line: kind})
		}
	}
	every(all, 2, nil, func(l []api.Tok) { wantBare(t, l) })
	var right []api.Tok
	for _, tok := range toks(t, `int x 5 'a' "b" "\q" "" + @`) {
		right = append(right, tok)
	}
	every(right, 5, nil, func(l []api.Tok) {
		if !t.Failed() {
			wantBare(t, l)
		}
	})
}

// P7.1: what direct tells comes to words; where it comes to none, the file and the line are those that #line told.
func TestFiles(t *testing.T) {
	files := []api.File{
		{Name: "m", Data: "#include \"h\"\nBOTH(in, t) a = __LINE__;\n__FILE__\n\"x\"\n"},
		{Name: "h", Data: "#define BOTH(a, b) a ## b # b\n"},
		{Name: "n", Data: "a\n#line 70 \"far\"\nb\n08\n"},
	}
	l, e, _, _ := direct.Process(files, "m")
	if e != api.OK {
		t.Fatal(e)
	}
	told, _, _, _ := lex.Words(l)
	want := []api.Word{key("int"), texts("t"), name("a"), sign("="), integer(2, api.KInt), sign(";"), texts("mx")}
	for i, line := range []int{2, 2, 2, 2, 2, 2, 3} {
		want[i].File, want[i].Line = "m", line
	}
	if !slices.Equal(told, want) {
		t.Errorf("%s; want %s", show(told), show(want))
	}
	l, _, _, _ = direct.Process(files, "n")
	if _, e, f, n := lex.Words(l); e != api.ErrWord || f != "far" || n != 71 {
		t.Error(e, f, n)
	}
}

// P7.2: what is right, and what of each word makes it wrong.
func TestRight(t *testing.T) {
	right := []api.Word{
		texts(""), texts("a"), texts("\x00\n\r\"\\\xff"), texts("int"), texts(strings.Repeat("\n", mostText)),
		name("a"), name("_"), name("Int"), name("defined"), name(strings.Repeat("z", 70000)),
		integer(0, api.KInt), integer(1<<31-1, api.KInt), integer(-1, api.KInt), integer(-128, api.KInt),
		integer(0, api.KUInt), integer(1<<32-1, api.KUInt), integer(0, api.KLong), integer(1<<63-1, api.KLong),
		integer(0, api.KULong), integer(1<<63-1, api.KULong), integer(-1<<63, api.KULong), integer(-1, api.KULong),
	}
	for _, s := range keys {
		right = append(right, key(s))
	}
	for _, s := range signs {
		right = append(right, sign(s))
	}
	for _, w := range right {
		placed := w
		placed.File, placed.Line = "any\nfile", -7
		if !lex.Right(w) || !lex.Right(placed) {
			t.Errorf("%s is not right", show(w))
		}
		wantBack(t, []api.Word{w})
		wantBack(t, []api.Word{placed})
		var wrong []api.Word
		if w.Kind == api.WInt {
			named := w
			named.S = "0"
			wrong = append(wrong, named)
		} else {
			valued, typed := w, w
			valued.V, typed.T = 1, api.KInt
			wrong = append(wrong, valued, typed)
		}
		for _, kind := range []int{0, 6, -1, 1 << 33} {
			other := w
			other.Kind = kind
			wrong = append(wrong, other)
		}
		for _, w := range wrong {
			wantWrong(t, w)
		}
	}
}

func wantWrong(t *testing.T, w api.Word) {
	t.Helper()
	if lex.Right(w) {
		t.Errorf("%s is right", show(w))
	}
	wantRefused(t, []api.Word{w})
	wantRefused(t, []api.Word{name("a"), w})
	wantRefused(t, []api.Word{w, name("a")})
}

// P7.2: words that no token comes to.
func TestRightWrong(t *testing.T) {
	wantWrong(t, api.Word{})
	for _, w := range []api.Word{
		integer(1<<31, api.KInt), integer(1<<32-1, api.KInt), integer(-129, api.KInt), integer(-1<<31, api.KInt), integer(1<<63-1, api.KInt), integer(-1<<63, api.KInt),
		integer(-1, api.KUInt), integer(-128, api.KUInt), integer(1<<32, api.KUInt), integer(-1<<63, api.KUInt),
		integer(-1, api.KLong), integer(-128, api.KLong), integer(-1<<63, api.KLong),
		texts(strings.Repeat("a", mostText+1)),
	} {
		wantWrong(t, w)
	}
	for _, kind := range []int{-1 << 62, -1, api.KVoid, api.KChar, api.KUChar, api.KShort, api.KUShort, 9, 10, 1 << 62} {
		for _, v := range []int64{0, 1, -1, -1 << 63} {
			wantWrong(t, integer(v, kind))
		}
	}
	for _, s := range []string{"", "x", "Int", "for", "int ", "+", "5", "#"} {
		wantWrong(t, key(s))
	}
	for _, s := range []string{"", "1", "1a", "a b", "a ", " a", "+", "'a'", `"a"`, "a\n", "\xe9", "a/**/", "a//", "@", "#"} {
		wantWrong(t, name(s))
	}
	for _, s := range keys {
		wantWrong(t, name(s))
		wantWrong(t, sign(s))
	}
	for _, s := range []string{"", "#", "##", "@", "a", "1", "+ ", " +", "+-", "()", "..", "//", "/*", "\\", "\"\""} {
		wantWrong(t, sign(s))
	}
}

// P7.2: Right against the second reading: each spelling, value and kind with each other one.
func TestEveryWord(t *testing.T) {
	values := []int64{0, 1, 127, 128, 255, 256, 1<<31 - 1, 1 << 31, 1<<32 - 1, 1 << 32, 1<<63 - 1, -1, -127, -128, -129, -256, -1 << 31, -1<<31 - 1, -1 << 32, -1 << 63}
	for kind := -1; kind <= 7; kind++ {
		for _, s := range []string{"", "int", "x", "5", "+", "#", "##", "...", `"a"`, "@", " ", "\xff"} {
			for _, v := range values {
				for is := -1; is <= 9; is++ {
					w := api.Word{Kind: kind, S: s, V: v, T: is, File: "f", Line: 3}
					if bareRight(w) {
						wantBack(t, []api.Word{w})
					} else {
						wantRefused(t, []api.Word{w})
					}
					if lex.Right(w) != bareRight(w) {
						t.Errorf("%s: %t", show(w), lex.Right(w))
					}
				}
			}
		}
	}
}

// P7.2: how words are shown.
func TestShow(t *testing.T) {
	wantShown(t, nil, "")
	wantShown(t, []api.Word{}, "")
	wantShown(t, []api.Word{key("int"), name("x"), sign(";")}, "int x ;")
	wantShown(t, []api.Word{sign("+"), sign("+"), sign("/"), sign("*")}, "+ + / *")
	for w, want := range map[api.Word]string{
		integer(0, api.KInt):           "0",
		integer(1<<31-1, api.KInt):     "2147483647",
		integer(97, api.KInt):          "97",
		integer(-1, api.KInt):          `'\377'`,
		integer(-2, api.KInt):          `'\376'`,
		integer(-64, api.KInt):         `'\300'`,
		integer(-128, api.KInt):        `'\200'`,
		integer(0, api.KUInt):          "0u",
		integer(1<<32-1, api.KUInt):    "4294967295u",
		integer(0, api.KLong):          "0l",
		integer(1<<63-1, api.KLong):    "9223372036854775807l",
		integer(0, api.KULong):         "0ul",
		integer(1<<63-1, api.KULong):   "9223372036854775807ul",
		integer(-1<<63, api.KULong):    "9223372036854775808ul",
		integer(-1, api.KULong):        "18446744073709551615ul",
		texts(""):                      `""`,
		texts("aA\x00\xff\n"):          `"\141\101\000\377\012"`,
		texts(`"\`):                    `"\042\134"`,
		{Kind: 2, S: "x", Line: 5}:     "x",
		{Kind: 5, S: "...", File: "f"}: "...",
	} {
		wantShown(t, []api.Word{w}, want)
		wantShown(t, []api.Word{name("a"), w, sign(",")}, "a "+want+" ,")
	}
}

// P7.2: no two texts stand one behind the other, also if they are empty.
func TestShowTexts(t *testing.T) {
	wantShown(t, []api.Word{texts("a"), sign(","), texts("b")}, `"\141" , "\142"`)
	for _, s := range []string{"", "a"} {
		wantRefused(t, []api.Word{texts(s), texts("b")})
		wantRefused(t, []api.Word{name("x"), texts("b"), texts(s)})
		wantRefused(t, []api.Word{texts("b"), name("x"), texts(s), texts(s), name("y")})
	}
}

// P7.3: all bytes, all characters, and numbers at the ends of their kinds come back.
func TestBack(t *testing.T) {
	var all []byte
	for c := range 256 {
		all = append(all, byte(c))
		wantBack(t, []api.Word{texts(string(all[c:]) + "7")})
		wantBack(t, []api.Word{integer(int64(int8(c)), api.KInt)})
	}
	wantBack(t, []api.Word{texts(string(all))})
	wantBack(t, []api.Word{texts(strings.Repeat("\"", mostText)), sign("."), texts(strings.Repeat("\xff", mostText))})
	wantBack(t, slices.Repeat([]api.Word{texts("b"), name("c")}, api.MaxToks/2))
}

// P7.3: all short lists of words come back, whatever stands beside each other.
func TestEveryPair(t *testing.T) {
	words := []api.Word{
		key("int"), key("else"), name("x"), name("e"), name("_1"), texts(""), texts("a\n"), texts(`"`),
		integer(5, api.KInt), integer(-1, api.KInt), integer(5, api.KUInt), integer(5, api.KLong), integer(-5, api.KULong),
	}
	for _, s := range signs {
		words = append(words, sign(s))
	}
	every(words, 3, nil, func(l []api.Word) {
		for i := 1; i < len(l); i++ {
			if l[i].Kind == api.WText && l[i-1].Kind == api.WText {
				wantRefused(t, l)
				return
			}
		}
		if !t.Failed() {
			wantBack(t, l)
		}
	})
}

// R3: what is handed in is as it was, its spare room too; what is answered is new.
func TestMemory(t *testing.T) {
	for _, s := range []string{"", `int x = 5 + 'a' "b" "c" ;`, `x "a" "\q"`, "x @"} {
		l := toks(t, s)
		room := slices.Concat(l, slices.Repeat([]api.Tok{{Kind: api.TText, S: `"spare"`}}, 8))
		kept := slices.Clone(room)
		told, e, f, n := lex.Words(room[:len(l)])
		if !slices.Equal(room, kept) {
			t.Errorf("%q: written into", s)
		}
		want := slices.Clone(told)
		clear(told[:cap(told)])
		again, e2, f2, n2 := lex.Words(l)
		if !slices.Equal(again, want) || e != e2 || f != f2 || n != n2 {
			t.Errorf("%q: %s, then %s", s, show(want), show(again))
		}
	}
	words := []api.Word{key("int"), name("x"), texts("a"), integer(5, api.KUInt)}
	room := slices.Concat(words, slices.Repeat([]api.Word{texts("spare")}, 8))
	kept := slices.Clone(room)
	if s, e := lex.Show(room[:len(words)]); s != `int x "\141" 5u` || e != api.OK || !slices.Equal(room, kept) {
		t.Error(s, e, room)
	}
}

// R5: long lists, long texts, and much that is wrong.
func TestGreat(t *testing.T) {
	const many = 1 << 20
	x := api.Tok{Kind: api.TName, S: "x"}
	wantWords(t, slices.Repeat([]api.Tok{x}, many), slices.Repeat([]api.Word{name("x")}, many)...)
	wantWords(t, slices.Repeat([]api.Tok{{Kind: api.TText, S: `""`}}, many), texts(""))
	for _, s := range []string{
		strings.Repeat(`"`, many), strings.Repeat(`\`, many), `"` + strings.Repeat(`\\`, many) + `"`, `"` + strings.Repeat("a", many) + `"`,
		`"\x` + strings.Repeat("f", many) + `"`, `"\` + strings.Repeat("7", many) + `"`, strings.Repeat("+", many), strings.Repeat("1", many),
	} {
		for _, kind := range kinds {
			wantNone(t, []api.Tok{x, {Kind: kind, S: s, File: "f", Line: 9}}, 1)
		}
		wantWrong(t, name(s))
		wantWrong(t, sign(s))
		wantWrong(t, key(s))
		wantWrong(t, texts(s))
		wantWrong(t, api.Word{Kind: api.WInt, S: s, T: api.KInt})
	}
	wantWords(t, []api.Tok{{Kind: api.TText, S: `"\x` + strings.Repeat("0", many) + `9"`}}, texts("\t"))
}

// R1: any bytes, under any kind, beside another token; P7.3 of what comes of them.
func FuzzAny(f *testing.F) {
	for _, s := range []string{"", "int", "x", "0x80000000", "5ul", "9223372036854775808", "08", "'a'", `'\377'`, `"a\x41"`, `"\1234"`, `"\400"`, `"\`, "\"\n\"", "<<=", "#", "@", "\xff\x00"} {
		for _, kind := range kinds {
			f.Add(s, kind, "f", int64(5))
		}
	}
	f.Fuzz(func(t *testing.T, s string, kind int, file string, v int64) {
		one := api.Tok{Kind: kind, S: s, File: file, Line: int(v)}
		beside := api.Tok{Kind: api.TText, S: `"b"`, File: "g", Line: 2}
		lines, _ := text.Lines(s)
		parted, _, _ := token.Lex(lines)
		for _, l := range [][]api.Tok{{one}, {one, beside}, {beside, one}, {one, one}, parted, append(slices.Clone(parted), one)} {
			wantBare(t, l)
			if told, e, _, _ := lex.Words(l); e == api.OK && len(told) <= api.MaxToks {
				wantBack(t, told)
			}
		}
		w := api.Word{Kind: kind, S: s, V: v, T: len(file), File: file, Line: kind}
		if lex.Right(w) != bareRight(w) {
			t.Errorf("%s: %t", show(w), lex.Right(w))
		}
		if bareRight(w) {
			wantBack(t, []api.Word{w})
		} else {
			wantRefused(t, []api.Word{w})
		}
	})
}

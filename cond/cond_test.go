package cond_test

import (
	"fmt"
	"slices"
	"strconv"
	"strings"
	"testing"

	"burin/api"
	"burin/cond"
	"burin/token"
)

const (
	top   = 1 << 63
	below = top - 1
	all   = 1<<64 - 1
)

// lex are a line's tokens.
func lex(t *testing.T, s string) []api.Tok {
	t.Helper()
	l, e, _ := token.Lex([]api.Line{{N: 3, S: s}})
	if e != api.OK {
		t.Fatalf("Lex(%.200q): %d", s, e)
	}
	return l
}

// minus are the bits of a number below 0.
func minus(n uint64) uint64 { return -n }

func wantNumber(t *testing.T, s string, bits uint64, unsigned bool) {
	t.Helper()
	if v, u, e := cond.Number(s); v != bits || u != unsigned || e != api.OK {
		t.Errorf("Number(%.200q) = %d, %t, %d; want %d, %t", s, v, u, e, bits, unsigned)
	}
}

func wantNoNumber(t *testing.T, s string) {
	t.Helper()
	if v, u, e := cond.Number(s); v != 0 || u || e != api.ErrCond {
		t.Errorf("Number(%.200q) = %d, %t, %d", s, v, u, e)
	}
}

func wantChar(t *testing.T, s string, worth int64) {
	t.Helper()
	if v, e := cond.Char(s); v != worth || e != api.OK {
		t.Errorf("Char(%.200q) = %d, %d; want %d", s, v, e, worth)
	}
}

func wantNoChar(t *testing.T, s string) {
	t.Helper()
	if v, e := cond.Char(s); v != 0 || e != api.ErrCond {
		t.Errorf("Char(%.200q) = %d, %d", s, v, e)
	}
}

func wantValue(t *testing.T, l []api.Tok, bits uint64, unsigned bool) {
	t.Helper()
	if v, u, e := cond.Eval(l); v != bits || u != unsigned || e != api.OK {
		t.Errorf("%.300q: %d, %t, %d; want %d, %t", token.Spell(l), v, u, e, bits, unsigned)
	}
}

func wantNone(t *testing.T, l []api.Tok) {
	t.Helper()
	if v, u, e := cond.Eval(l); v != 0 || u || e != api.ErrCond {
		t.Errorf("%.300q: %d, %t, %d", token.Spell(l), v, u, e)
	}
}

// wantBare holds a condition against the second reading.
func wantBare(t *testing.T, l []api.Tok) {
	t.Helper()
	if v := bareEval(l); v != nil {
		wantValue(t, l, v.bits(), v.unsigned)
	} else {
		wantNone(t, l)
	}
}

type result struct {
	bits     uint64
	unsigned bool
}

// every hands on all lists that are at most so many of the pieces.
func every[T any](pieces []T, most int, begin []T, check func([]T)) {
	check(begin)
	if most == 0 {
		return
	}
	for _, p := range pieces {
		every(pieces, most-1, append(begin[:len(begin):len(begin)], p), check)
	}
}

// P5.1: numbers, their ends, and whether they are unsigned.
func TestNumber(t *testing.T) {
	for s, want := range map[string]result{
		"0":                        {0, false},
		"00":                       {0, false},
		"000000000000000000000000": {0, false},
		"1":                        {1, false},
		"9":                        {9, false},
		"10":                       {10, false},
		"07":                       {7, false},
		"010":                      {8, false},
		"0377":                     {255, false},
		"0x0":                      {0, false},
		"0xf":                      {15, false},
		"0XaF09":                   {0xaf09, false},
		"0xFFull":                  {255, true},
		"1234567890":               {1234567890, false},

		"9223372036854775807":                                 {below, false},
		"9223372036854775808":                                 {top, false},
		"18446744073709551615":                                {all, false},
		"9223372036854775808u":                                {top, true},
		"18446744073709551615u":                               {all, true},
		"18446744073709551615LL":                              {all, false},
		"18446744073709551615LLU":                             {all, true},
		"0x7fffffffffffffff":                                  {below, false},
		"0x7fffffffffffffffU":                                 {below, true},
		"0x8000000000000000":                                  {top, true},
		"0x8000000000000000l":                                 {top, true},
		"0xffffffffffffffff":                                  {all, true},
		"0xffffffffffffffffULL":                               {all, true},
		"0777777777777777777777":                              {below, false},
		"01000000000000000000000":                             {top, true},
		"01777777777777777777777":                             {all, true},
		"0x" + strings.Repeat("0", 5000) + "8000000000000000": {top, true},
		strings.Repeat("0", 5000) + "17lu":                    {15, true},
	} {
		wantNumber(t, s, want.bits, want.unsigned)
	}
}

// P5.1: what is no number.
func TestNoNumber(t *testing.T) {
	for _, s := range []string{
		"", " ", "x", "u", "l", "a", "X1", "_1", "+1", "-1", "'1'", "1 ", " 1", "1\n", "1\x00",
		"08", "09", "018", "0778", "1a", "1f", "1x", "1_000", "0_7", "0x_1", "0b1", "0o7",
		"0x", "0X", "0xu", "0xg", "0x1g", "0x1.", "00x1", "x1", "0x0x1", "0x-1", "0x 1",
		"1.", ".1", "1.0", "1e5", "1e+5", "0x1p3", "0x1p+3", "0e0", "1'000",
		"1uu", "1lll", "1lul", "1ulu", "1lL", "1Ll", "1ulL", "1uLl", "1lLu", "1LlU", "1ullu", "1lull", "1ui", "1z", "1u1", "1l1",
		"18446744073709551616", "18446744073709551616u", "99999999999999999999", "184467440737095516150",
		"0x10000000000000000", "0x10000000000000000u", "02000000000000000000000", "02000000000000000000000ull",
		strings.Repeat("9", 5000), "0x" + strings.Repeat("f", 5000), "0" + strings.Repeat("7", 5000), "\xff", "1\xc3\xa9", "\u0661",
	} {
		wantNoNumber(t, s)
	}
}

// P5.1: every suffix, and what looks like one.
func TestSuffixes(t *testing.T) {
	right := map[string]bool{}
	for _, s := range []string{"", "u", "l", "ll", "ul", "ull", "lu", "llu"} {
		unsigned := strings.Contains(s, "u")
		for _, great := range []string{s, strings.ReplaceAll(s, "u", "U"), strings.ReplaceAll(s, "l", "L"), strings.ToUpper(s)} {
			right[great] = unsigned
		}
	}
	if len(right) != 23 {
		t.Fatalf("suffixes: %d", len(right))
	}
	every([]string{"u", "U", "l", "L", "f"}, 5, nil, func(l []string) {
		suffix := strings.Join(l, "")
		for s, n := range map[string]uint64{"0": 0, "25": 25, "025": 21, "0x25": 37} {
			if unsigned, ok := right[suffix]; ok {
				wantNumber(t, s+suffix, n, unsigned)
			} else if s != "0x25" || !strings.HasPrefix(suffix, "f") {
				wantNoNumber(t, s+suffix)
			}
		}
	})
}

// P5.1: all short texts of what numbers are made of, and what is near.
func TestEveryShortNumber(t *testing.T) {
	every([]string{"0", "1", "7", "8", "a", "F", "x", "X", "u", "L", ".", "e", "+", "-", "_", " ", "g"}, 5, nil, func(l []string) {
		if t.Failed() {
			return
		}
		s := strings.Join(l, "")
		if v, _ := bareNumber(s); v != nil {
			wantNumber(t, s, v.bits(), v.unsigned)
		} else {
			wantNoNumber(t, s)
		}
	})
}

// P5.1: characters of a byte, all of them; a line end is none, as a character stands in one line.
func TestBytes(t *testing.T) {
	for c := range 256 {
		s := "'" + string([]byte{byte(c)}) + "'"
		switch worth := int64(c); {
		case c == '\'' || c == '\\' || c == '\n' || c == '\r':
			wantNoChar(t, s)
		case c < 128:
			wantChar(t, s, worth)
		default:
			wantChar(t, s, worth-256)
		}
	}
}

// P5.1: escapes, all of those of a byte, of octal digits, of a few hexadecimal ones.
func TestEscapes(t *testing.T) {
	plain := map[byte]int64{'n': 10, 't': 9, 'v': 11, 'b': 8, 'r': 13, 'f': 12, 'a': 7, '\\': 92, '\'': 39, '"': 34, '?': 63}
	for c := range 256 {
		s := "'\\" + string([]byte{byte(c)}) + "'"
		if worth, ok := plain[byte(c)]; ok {
			wantChar(t, s, worth)
		} else if '0' <= c && c <= '7' {
			wantChar(t, s, int64(c-'0'))
		} else {
			wantNoChar(t, s)
		}
	}
	worth := func(n int) int64 { return int64(n) - int64(n/128*256) }
	for n := range 512 {
		for _, form := range []string{"%o", "%02o", "%03o"} {
			if s := "'\\" + fmt.Sprintf(form, n) + "'"; n < 256 {
				wantChar(t, s, worth(n))
			} else {
				wantNoChar(t, s)
			}
		}
		wantNoChar(t, "'\\"+fmt.Sprintf("%04o", n)+"'")
	}
	for n := range 0x1200 {
		for _, form := range []string{"%x", "%X", "%02x", "%07X", "%060x"} {
			if s := "'\\x" + fmt.Sprintf(form, n) + "'"; n < 256 {
				wantChar(t, s, worth(n))
			} else {
				wantNoChar(t, s)
			}
		}
	}
	wantChar(t, "'\\x"+strings.Repeat("0", 70000)+"80'", -128)
	wantNoChar(t, "'\\x1"+strings.Repeat("0", 70000)+"41'")
}

// P5.1: what is no character.
func TestNoChar(t *testing.T) {
	for _, s := range []string{
		"", "'", "''", "'''", "''''", "a", "'a", "a'", "\"a\"", "'a\"", "\"a'", "'ab'", "'abcd'", " 'a'", "'a' ", "'a'b", "L'a'", "u8'a'",
		"'\\'", "'\\", "\\'", "'\\''a'", "'\\'a'", "'a\\'", "'\\\\\\'", "'\\\\'a", "'\\\\a'", "'a\\n'", "'\\na'", "'\\n\\n'",
		"'\\x'", "'\\xg'", "'\\x4g'", "'\\xg4'", "'\\x 4'", "'\\x+4'", "'\\x-4'", "'\\x_4'", "'\\x4_1'", "'\\X41'", "'\\x0x4'", "'\\x100'", "'\\xfff'", "'\\xffffffffffffffff'", "'\\x10000000000000041'",
		"'\\8'", "'\\9'", "'\\18'", "'\\128'", "'\\400'", "'\\777'", "'\\0000'", "'\\0001'", "'\\1234'", "'\\-1'", "'\\+1'", "'\\0x1'", "'\\1_'",
		"'\\u0041'", "'\\e'", "'\\N'", "'\\A'", "'\\ '", "'\\0 '", "'\xc3\xa9'", "'\\\xff'", "'\\\x00'",
		"'\n'", "'\r'", "'\r\n'", "'\n\r'", "'\n\n'", "'\\\n'", "'\\\r'", "'\\\r\n'", "'a\n'", "'\na'", "'\\n\n'", "'\\\nn'", "'\\1\n'", "'\\x4\r1'", "'a'\n", "\r'a'",
	} {
		wantNoChar(t, s)
	}
}

// P5.1: all short texts of what characters are made of.
func TestEveryShortChar(t *testing.T) {
	every([]string{"'", "\\", "x", "n", "0", "3", "7", "8", "f", "\"", "\xe9", "\n", "\r"}, 6, nil, func(l []string) {
		if t.Failed() {
			return
		}
		s := strings.Join(l, "")
		if v := bareChar(s); v != nil {
			wantChar(t, s, v.n.Int64())
		} else {
			wantNoChar(t, s)
		}
	})
}

// P5.2: conditions, and their values.
func TestEval(t *testing.T) {
	for s, want := range map[string]result{
		"1 + 2 * 3 == 7 && X":     {0, false},
		"-1 > 0u":                 {1, false},
		"-1 > 0":                  {0, false},
		"0 && 1 / 0":              {0, false},
		"1 ? 2 : 1 << 64":         {2, false},
		"'\\n' + 0x10":            {26, false},
		"'\\377'":                 {all, false},
		"18446744073709551615u":   {all, true},
		"X":                       {0, false},
		"defined":                 {0, false},
		"if + while - int":        {0, false},
		"((((7))))":               {7, false},
		"- - 3":                   {3, false},
		"-~!0":                    {2, false},
		"!-~+0":                   {0, false},
		"!5u":                     {0, false},
		"+5u":                     {5, true},
		"-5u":                     {minus(5), true},
		"~5u":                     {minus(6), true},
		"~0":                      {all, false},
		"-'a'":                    {minus(97), false},
		"1-1":                     {0, false},
		"10 - 3 - 2":              {5, false},
		"100 / 10 / 5":            {2, false},
		"100 / (10 / 5)":          {50, false},
		"100 % 7 * 3":             {6, false},
		"2 * 3 % 4":               {2, false},
		"1 << 2 << 3":             {32, false},
		"1 << 2 + 3":              {32, false},
		"256 >> 2 >> 1":           {32, false},
		"3 > 2 > 1":               {0, false},
		"1 < 2 == 2 > 1":          {1, false},
		"1 == 1 & 2":              {0, false},
		"(1 == 1) & 3":            {1, false},
		"1 | 2 ^ 3 & 1":           {3, false},
		"7 & 3 ^ 1 | 8":           {10, false},
		"1 || 0 && 0":             {1, false},
		"(1 || 0) && 0":           {0, false},
		"5 && 7":                  {1, false},
		"0 || 7":                  {1, false},
		"0u || 0u":                {0, false},
		"1u && 1u":                {1, false},
		"1 ? 2 : 0 ? 3 : 4":       {2, false},
		"0 ? 2 : 0 ? 3 : 4":       {4, false},
		"0 ? 2 : 1 ? 3 : 4":       {3, false},
		"1 ? 0 ? 2 : 3 : 4":       {3, false},
		"1 ? 1 ? 1 ? 2 : 3 : 4:5": {2, false},
		"(1 ? 0 : 2) ? 3 : 4":     {4, false},
		"1 ? 0 : 2 ? 3 : 4":       {0, false},
		"0 || 1 ? 2 + 3 : 4 + 5":  {5, false},
		"!1 ? 2 : 3 || 4":         {1, false},
		"1 + (0 ? 5 : 6) * 2":     {13, false},
		"0 == 0 ? 'a' : 'b'":      {97, false},
	} {
		wantValue(t, lex(t, s), want.bits, want.unsigned)
		wantBare(t, lex(t, s))
	}
}

// P5.2: the kinds of operands, and of what becomes of them.
func TestKinds(t *testing.T) {
	for s, want := range map[string]result{
		"-1 + 0u": {all, true}, "0u + -1": {all, true}, "1 - 2u": {all, true}, "2u - 3": {all, true}, "-1 * 1u": {all, true},
		"-6 / 2": {minus(3), false}, "-6 / 2u": {below - 2, true}, "6u / -2": {0, true}, "-7 % 4u": {1, true}, "7u % -4": {7, true},
		"-1 & 3u": {3, true}, "3u ^ -1": {minus(4), true}, "-4 | 1u": {minus(3), true},
		"-1 < 0": {1, false}, "-1 < 0u": {0, false}, "0u < -1": {1, false}, "-1 <= 0u": {0, false}, "0u <= -1": {1, false},
		"-1 >= 0u": {1, false}, "0u >= -1": {0, false}, "-1 >= 0": {0, false}, "0 > -1": {1, false}, "0 > -1u": {0, false},
		"-1 == 18446744073709551615u": {1, false}, "-1 != 0xffffffffffffffff": {0, false}, "-1 == 1u": {0, false},
		"-8 >> 1": {minus(4), false}, "-8 >> 1u": {minus(4), false}, "-8u >> 1": {below - 3, true}, "1u << 1": {2, true}, "1 << 1u": {2, false},
		"-1 << 1": {minus(2), false}, "(1 << 1u) - 3 < 0": {1, false}, "(1u << 1) - 3 < 0": {0, false},
		"0 ? 1u : -1": {all, true}, "1 ? -1 : 0u": {all, true}, "1 ? -1 : 0": {all, false}, "1u ? -1 : 0": {all, false}, "0u ? 1 : -1": {all, false},
		"(1 ? -1 : 0u) < 0": {0, false}, "(1u ? -1 : 0) < 0": {1, false}, "1 ? -1 : 0 ? 1 : 1u": {all, true},
		"-1 < (1u < 2u)": {1, false}, "-1 < (1u == 1u)": {1, false}, "-1 < !0u": {1, false}, "-1 < (1u && 1u)": {1, false}, "-1 < (0u || 1u)": {1, false},
		"-1 < +1u": {0, false}, "-1 < -1u + 2": {0, false}, "-1 < ~0u": {0, false}, "-2 < ~0": {1, false},
		"'\\377' < 0": {1, false}, "'\\x80' == -128": {1, false}, "'\\377' < 0u": {0, false}, "'\xe9' < 0": {1, false},
		"0x8000000000000000 < 0": {0, false}, "0x8000000000000000 / -1": {0, true}, "01000000000000000000000 > -1": {0, false},
	} {
		wantValue(t, lex(t, s), want.bits, want.unsigned)
		wantBare(t, lex(t, s))
	}
}

// P5.2: the ends of 64 bits.
func TestEnds(t *testing.T) {
	for s, want := range map[string]result{
		"9223372036854775807":                   {below, false},
		"9223372036854775808u":                  {top, true},
		"9223372036854775807 + 1":               {top, false},
		"9223372036854775807 + 1 < 0":           {1, false},
		"9223372036854775807 + 1u > 0":          {1, false},
		"-9223372036854775807 - 1":              {top, false},
		"-9223372036854775807 - 2":              {below, false},
		"-(-9223372036854775807 - 1)":           {top, false},
		"(-9223372036854775807 - 1) / -1":       {top, false},
		"(-9223372036854775807 - 1) % -1":       {0, false},
		"(-9223372036854775807 - 1) / -1u":      {0, true},
		"(-9223372036854775807 - 1) / 1":        {top, false},
		"(-9223372036854775807 - 1) >> 63":      {all, false},
		"(-9223372036854775807 - 1u) >> 63":     {1, true},
		"1 << 63":                               {top, false},
		"(1 << 63) < 0":                         {1, false},
		"(1u << 63) < 0":                        {0, false},
		"2 << 63":                               {0, false},
		"-1 << 63":                              {top, false},
		"-1 >> 0":                               {all, false},
		"-1 >> 63":                              {all, false},
		"1 << 0":                                {1, false},
		"18446744073709551615u + 1":             {0, true},
		"18446744073709551615u * 18446744073u":  {minus(18446744073), true},
		"4294967296 * 4294967296":               {0, false},
		"4294967296 * 2147483648":               {top, false},
		"0u - 1":                                {all, true},
		"~0x7fffffffffffffff == 1 << 63":        {1, false},
		"-7 / 2":                                {minus(3), false},
		"-7 % 2":                                {minus(1), false},
		"7 / -2":                                {minus(3), false},
		"7 % -2":                                {1, false},
		"-7 / -2":                               {3, false},
		"-7 % -2":                               {minus(1), false},
		"0 / -5":                                {0, false},
		"0 % 5":                                 {0, false},
		"18446744073709551615u / 2":             {below, true},
		"18446744073709551615u % 10":            {5, true},
		"-9223372036854775807 < 0":              {1, false},
		"0x7fffffffffffffff == -0x7fffffffffff": {0, false},
	} {
		wantValue(t, lex(t, s), want.bits, want.unsigned)
		wantBare(t, lex(t, s))
	}
}

// P5.2: what is undefined, where it counts.
func TestUndefined(t *testing.T) {
	for _, s := range []string{
		"1 / 0", "1 % 0", "1u / 0", "1 % 0u", "0 / 0", "0 % 0", "1 / X", "1 / (1 - 1)", "1 / !1", "-1 / 0", "1 + 1 / 0", "(1 / 0)", "-(1 / 0)", "!(1 % 0)",
		"1 << 64", "1 >> 64", "1 << -1", "1 >> -1", "0 << 64", "0 >> -1", "1u << 64", "1 << 64u", "1 << 65", "1 << 18446744073709551615u", "1 << -1u", "1 >> (1 << 63)", "1 >> 9223372036854775807", "1 << 1000",
		"1 && 1 / 0", "0 || 1 / 0", "1 / 0 && 0", "1 / 0 || 1", "1 / 0 ? 1 : 2", "1 ? 1 / 0 : 2", "0 ? 1 : 1 / 0",
		"0 && 1 / 0 || 1 / 0", "(0 && 1 / 0) + 1 / 0", "0 && 1 / 0 ? 1 : 1 / 0", "1 || 1 / 0 ? 1 / 0 : 1", "(1 ? 2 : 1 / 0) + 1 % 0", "1 ? 0 ? 1 / 0 : 1 % 0 : 1 << 64",
		"0 ? 1 / 0 : 1 / 0", "1 && (0 || 1 << 64)", "(0 ? 1 / 0 : 0) || 1 / 0", "(1 || 1 / 0) && 1 / 0", "0 && 1 / 0 | 1 || 1 / 0",
		"0 * (1 / 0)", "0 & 1 / 0", "1 | 1 / 0", "1 == 1 / 0",
	} {
		wantNone(t, lex(t, s))
		wantBare(t, lex(t, s))
	}
}

// P5.2: what does not count is not undefined, but its kind counts.
func TestSkipped(t *testing.T) {
	for s, want := range map[string]result{
		"0 && 1 / 0":                                  {0, false},
		"1 || 1 / 0":                                  {1, false},
		"2 || 1 % 0":                                  {1, false},
		"-1 || 1 << 64":                               {1, false},
		"0u && 1 >> -1":                               {0, false},
		"X && 1 / X":                                  {0, false},
		"0 && (1 || 1 / 0)":                           {0, false},
		"0 && (0 || 1 / 0)":                           {0, false},
		"0 && (1 && 1 / 0)":                           {0, false},
		"0 && (1 ? 1 / 0 : 1 % 0)":                    {0, false},
		"0 && 1 / 0 && 1 / 0":                         {0, false},
		"1 || 1 / 0 || 1 / 0":                         {1, false},
		"1 || 1 / 0 && 1 / 0":                         {1, false},
		"0 && 1 / 0 || 2":                             {1, false},
		"1 ? 2 : 1 / 0":                               {2, false},
		"0 ? 1 / 0 : 2":                               {2, false},
		"1 ? 2 : 1 / 0 ? 3 : 4":                       {2, false},
		"1 ? 2 : 1 ? 1 / 0 : 4":                       {2, false},
		"1 ? 2 : 0 ? 3 : 1 / 0":                       {2, false},
		"0 ? 1 ? 1 / 0 : 1 % 0 : 3":                   {3, false},
		"0 ? 1 / 0 : 1 ? 2 : 1 / 0":                   {2, false},
		"0 ? 1 / 0 ? 1 / 0 : 1 / 0 : 5":               {5, false},
		"1 ? (0 ? 1 / 0 : 6) : (1 ? 1 / 0 : 2)":       {6, false},
		"(1 ? 2 : 1 / 0) + (0 ? 1 / 0 : 3)":           {5, false},
		"(0 && 1 / 0) + 6 / 3":                        {2, false},
		"1 ? -1 : 1u / 0":                             {all, true},
		"1 ? -1 : 1 / 0u":                             {all, true},
		"1 ? -1 : 1 % 0u":                             {all, true},
		"1 ? -1 : 1 / 0":                              {all, false},
		"1 ? -1 : (1u << 64)":                         {all, true},
		"1 ? -1 : (1 << 64u)":                         {all, false},
		"1 ? -1 : (1u >> -1) + 1":                     {all, true},
		"1 ? -1 : -(1u / 0)":                          {all, true},
		"1 ? -1 : !(1u / 0)":                          {all, false},
		"1 ? -1 : (1u / 0 < 1)":                       {all, false},
		"1 ? -1 : (1u / 0 && 1u)":                     {all, false},
		"1 ? -1 : (1 ? 1 / 0 : 1u)":                   {all, true},
		"0 ? (0 ? 1u : 1 / 0) : -1":                   {all, true},
		"-1 < (1 ? 0 : 0u)":                           {0, false},
		"-1 < (1 ? 0 : 0)":                            {1, false},
		"-1 < (0 ? 0u : 0)":                           {0, false},
		"-1 < (0 && 0u)":                              {1, false},
		"-1 < (1 || 0u)":                              {1, false},
		"1 ? 2 : 18446744073709551615u":               {2, true},
		"1 ? 2 : 0xffffffffffffffff":                  {2, true},
		"1 ? 2 : 9223372036854775807 * 4":             {2, false},
		"0 && 0xffffffffffffffff":                     {0, false},
		"1 ? 2 : (-9223372036854775807 - 1) / -1 / X": {2, false},
	} {
		wantValue(t, lex(t, s), want.bits, want.unsigned)
		wantBare(t, lex(t, s))
	}
}

// P5.2: what is no condition; where it does not count, too.
func TestNoCondition(t *testing.T) {
	wrong := []string{
		"", "()", "(", ")", "+", "-", "!", "?", ":", "*", "? :", "( )", "1 +", "* 1", "1 + * 2", "/ 1", "&& 1", "1 &&", "1 || ", "|| 1", "1 2", "X Y", "1 X", "1 'a'", "X 1",
		"(1", "1)", "((1)", "(1))", ")1(", "(1)(2)", "1 (2)", "(1) 2", "X(1)", "X()", "(X)(1)", "defined X", "defined(X)", "1 + (2", "1 + 2)", "(1 + 2", "1 + (2 *) 3", "(1 +) 2", "(+ 1",
		"1 ?", "1 ? 2", "1 ? 2 :", "1 ? : 2", "? 1 : 2", "1 : 2", ": 2", "1 ? 2 : 3 : 4", "1 ? 2 ? 3 : 4", "(1 ? 2) : 3", "1 ? (2 : 3)", "1 ? (2 : 3", "1 ? 2 : (3", "(1 ? 2 : 3", "1 ? 2 : 3)", "1 ? (2) : )", "(1) ? 2 : 3 :", "1 ? ) 2 ( : 3",
		"1 ! 2", "1 ~ 2", "1 !", "X ~", "! ", "1 + !", "!)",
		"++1", "--1", "1++", "1--", "1 = 1", "X = 1", "X += 1", "1 <<= 1", "1, 2", "(1, 2)", "1 ? 2, 3 : 4", "a.b", "a->b", "a[0]", "{1}", "1;", "...", "#", "# X", "1 ## 2", "X #", "1 === 1", "*X", "&X", "1 &&& 1", "sizeof(1) ", "(int)1",
		"09", "08 + 1", "1.0", "1.", ".5", "1e3", "0x", "0xg", "1lL", "1uu", "0b1", "18446744073709551616u", "0x10000000000000000",
		"9223372036854775808", "9223372036854775808l", "18446744073709551615", "18446744073709551615LL", "-9223372036854775808", "18446744073709551616", "99999999999999999999999999u", "1 + 9223372036854775808", "(9223372036854775808)", "!9223372036854775808",
		"'ab'", "'\\400'", "'\\x'", "'\\q'", "'a' 'b'", "\"a\"", "1 + \"a\"", "\"1\"", "@", "1 @ 2", "\\", "1 \\ 2", "$", "`",
	}
	for _, s := range wrong {
		wantNone(t, lex(t, s))
		wantBare(t, lex(t, s))
		for _, round := range []string{"0 && %s", "1 || %s", "0 && (%s)", "1 ? 2 : (%s)", "0 ? (%s) : 2", "0 && (1 || (%s))", "1 ? 2 : (0 && (%s))", "(%s) + 1", "%s"} {
			l := lex(t, fmt.Sprintf(round, s))
			wantBare(t, l)
			if strings.Contains(round, "(%s)") {
				wantNone(t, l)
			}
		}
	}
	for _, s := range []string{"0 && 09", "1 || 09", "1 ? 2 : 09", "0 ? 09 : 2", "0 && 9223372036854775808", "1 || 18446744073709551615", "1 ? 2 : 9223372036854775808", "0 ? 9223372036854775808 : 2", "0 && 'ab'", "0 && \"a\"", "1 || (2", "0 && 1 2", "1 || 2 +"} {
		wantNone(t, lex(t, s))
	}
}

// toks are tokens of texts that are one each.
func toks(t *testing.T, texts ...string) []api.Tok {
	t.Helper()
	var l []api.Tok
	for _, s := range texts {
		one, ok := token.One(s)
		if !ok {
			t.Fatalf("One(%q)", s)
		}
		l = append(l, one)
	}
	return l
}

// P5.2: all short lists of tokens, right or not.
func TestEveryShortCondition(t *testing.T) {
	for _, c := range []struct {
		pieces string
		most   int
	}{
		{"1 0u ( ) ? : - && *", 6},
		{"0 2u ? : || / ( )", 6},
		{"X 3 - ! < << ) (", 6},
		{"0 1 ? : %", 8},
		{"1 0 ( )", 8},
		{"7 2u ( ) + - ~ ! * / % << >> < > <= >= == != & ^ | && || ? : X 'a' \"a\" @ , ##", 4},
	} {
		pieces := toks(t, strings.Fields(c.pieces)...)
		t.Run(c.pieces, func(t *testing.T) {
			t.Parallel()
			every(pieces, c.most, nil, func(l []api.Tok) {
				if !t.Failed() {
					wantBare(t, l)
				}
			})
		})
	}
}

var ends = strings.Fields("0 1 2 3 63 64 0u 1u 63u 64u 7 9 9223372036854775806 9223372036854775807 9223372036854775808u 18446744073709551615u 0x8000000000000001 4294967296 'a' '\\377' X")

// P5.2: each sign between two operands, of all ends, with and without a sign ahead.
func TestEverySign(t *testing.T) {
	for _, sign := range slices.Concat(bareLevels...) {
		for _, a := range ends {
			for _, b := range ends {
				for _, ahead := range []string{"%s %s %s", "-%s %s %s", "%s %s -%s", "~%s %s -%s", "-1 - %s %s (%s)", "1 ? -1 : %s %s %s", "(1 << 63) + %s %s ~%s"} {
					wantBare(t, lex(t, fmt.Sprintf(ahead, a, sign, b)))
				}
			}
		}
	}
}

// P5.2: any two signs, of three operands, and of four with a choice among them.
func TestEveryTwoSigns(t *testing.T) {
	numbers := strings.Fields("0 1 2u 3 -1")
	for _, one := range slices.Concat(bareLevels...) {
		t.Run(one, func(t *testing.T) {
			t.Parallel()
			for _, two := range slices.Concat(bareLevels...) {
				every(numbers, 3, nil, func(l []string) {
					if len(l) < 3 || t.Failed() {
						return
					}
					a, b, c := l[0], l[1], l[2]
					wantBare(t, lex(t, a+" "+one+" "+b+" "+two+" "+c))
					wantBare(t, lex(t, a+" "+one+" ("+b+" "+two+" "+c+")"))
					wantBare(t, lex(t, "("+a+" "+one+" "+b+") "+two+" "+c))
					wantBare(t, lex(t, a+" "+one+" "+b+" ? "+b+" "+two+" "+c+" : "+c+" "+one+" "+a))
					wantBare(t, lex(t, a+" ? "+b+" : "+c+" "+two+" "+a+" ? "+b+" "+one+" "+c+" : "+b))
				})
			}
		})
	}
}

// small is a tree of signs and small numbers: what it is worth, and how it is spelt, with all brackets and with those alone that its levels ask for.
type small struct {
	worth     int
	undefined bool
	level     int // 0: an operand that has no sign between two
	full      string
	short     string
}

func number(n int) small {
	s := strconv.Itoa(n)
	return small{worth: n, full: "(" + s + ")", short: s}
}

// bound is a tree as the operand of a sign of a level: in brackets, if it binds less.
func (s small) bound(level int) string {
	if s.level > level {
		return "(" + s.short + ")"
	}
	return s.short
}

// join counts with the numbers of Go, and knows nothing of kinds.
func join(sign string, level int, a, b small) small {
	s := small{level: level, full: "(" + a.full + sign + b.full + ")"}
	s.short = a.bound(level) + " " + sign + " " + b.bound(level-1)
	s.undefined = a.undefined || b.undefined && !(sign == "&&" && a.worth == 0) && !(sign == "||" && a.worth != 0)
	truth := func(is bool) int {
		if is {
			return 1
		}
		return 0
	}
	switch x, y := a.worth, b.worth; sign {
	case "*":
		s.worth = x * y
	case "/", "%":
		if y == 0 {
			s.undefined = true
		} else if sign == "/" {
			s.worth = x / y
		} else {
			s.worth = x - x/y*y
		}
	case "+":
		s.worth = x + y
	case "-":
		s.worth = x - y
	case "<<", ">>":
		if y < 0 || y > 63 {
			s.undefined = true
		} else if sign == "<<" {
			s.worth = x << y
		} else {
			s.worth = x >> y
		}
	case "<":
		s.worth = truth(x < y)
	case ">":
		s.worth = truth(x > y)
	case "<=":
		s.worth = truth(x <= y)
	case ">=":
		s.worth = truth(x >= y)
	case "==":
		s.worth = truth(x == y)
	case "!=":
		s.worth = truth(x != y)
	case "&":
		s.worth = x & y
	case "^":
		s.worth = x ^ y
	case "|":
		s.worth = x | y
	case "&&":
		s.worth = truth(x != 0 && y != 0)
	case "||":
		s.worth = truth(x != 0 || y != 0)
	}
	return s
}

// P5.3: what is signed only, and small, is what numbers are; brackets round an operand that has its own make no difference.
func TestSmall(t *testing.T) {
	check := func(t *testing.T, s small) {
		for _, spelt := range []string{s.full, s.short, "(" + s.short + ")", "((" + s.full + "))"} {
			if l := lex(t, spelt); s.undefined {
				wantNone(t, l)
			} else {
				wantValue(t, l, uint64(s.worth), false)
			}
		}
	}
	for level, signs := range bareLevels {
		for _, one := range signs {
			t.Run(one, func(t *testing.T) {
				t.Parallel()
				for other, signs := range bareLevels {
					for _, two := range signs {
						every([]int{-3, -1, 0, 1, 2, 5}, 3, nil, func(l []int) {
							if len(l) < 3 || t.Failed() {
								return
							}
							a, b, c := number(l[0]), number(l[1]), number(l[2])
							check(t, join(two, other+1, join(one, level+1, a, b), c))
							check(t, join(two, other+1, a, join(one, level+1, b, c)))
						})
					}
				}
			})
		}
	}
}

// P5.3: brackets round each operand of a list of conditions, one by one.
func TestBrackets(t *testing.T) {
	for _, s := range []string{
		"1 + 2 * 3 == 7 && X", "-1 > 0u", "1 ? 2 : 0 ? 3 : 4", "0 ? 1u : -1", "'\\n' + 0x10 - 'a'", "1 || 1 / 0", "~7 & 3 ^ X | 8u >> 1",
		"1 ? 0 ? 2 : 3 : 4 << 5 % 3", "1 / 0", "5 - 3 - 1 < 2 != 0 && 0 || 4", "1 << 64 ? 1 : 2", "0 && 1 % 0 || - ! 5",
	} {
		l := lex(t, s)
		v, u, e := cond.Eval(l)
		for i, tok := range l {
			if tok.Kind == api.TPunct {
				continue
			}
			for deep := range 3 {
				var round []api.Tok
				round = append(round, l[:i]...)
				round = append(round, slices.Repeat(toks(t, "("), deep)...)
				round = append(round, tok)
				round = append(round, slices.Repeat(toks(t, ")"), deep)...)
				round = append(round, l[i+1:]...)
				if v2, u2, e2 := cond.Eval(round); v != v2 || u != u2 || e != e2 {
					t.Errorf("%q: %d, %t, %d; want %d, %t, %d", token.Spell(round), v2, u2, e2, v, u, e)
				}
			}
		}
	}
	for s, bracketed := range map[string]string{
		"1 + 2 * 3":                 "1 + (2 * 3)",
		"10 - 3 - 2":                "(10 - 3) - 2",
		"1 << 2 + 3 < 4 == 5 & 6":   "((((1 << (2 + 3)) < 4) == 5) & 6)",
		"1 ^ 2 | 3 && 4 || 5":       "((((1 ^ 2) | 3) && 4) || 5)",
		"1 || 2 && 3 | 4 ^ 5 & 6":   "1 || (2 && (3 | (4 ^ (5 & 6))))",
		"-1 - -2 * !3":              "(-1) - ((-2) * (!3))",
		"1 || 0 ? 2 : 3 ? 4 : 5":    "(1 || 0) ? 2 : (3 ? 4 : 5)",
		"0 ? 1 : 1 ? 2 + 1 : 3 + 1": "0 ? 1 : (1 ? (2 + 1) : (3 + 1))",
		"1 ? 1 ? 2 : 3 : 4":         "1 ? (1 ? 2 : 3) : 4",
		"- ! ~ 5u - 1":              "(-(!(~(5u)))) - 1",
	} {
		v, u, e := cond.Eval(lex(t, s))
		v2, u2, e2 := cond.Eval(lex(t, bracketed))
		if v != v2 || u != u2 || e != e2 || e != api.OK {
			t.Errorf("%q: %d, %t, %d; %q: %d, %t, %d", s, v, u, e, bracketed, v2, u2, e2)
		}
	}
}

// R5: parts nested as deep as they may be, and deeper; long lists.
func TestDeep(t *testing.T) {
	for _, n := range []int{1, 60, 1 << 16, 1 << 18} {
		many := func(texts ...string) []api.Tok { return slices.Repeat(toks(t, texts...), n) }
		wantValue(t, slices.Concat(many("("), toks(t, "7"), many(")")), 7, false)
		wantNone(t, slices.Concat(many("("), toks(t, "7"), many(")"), toks(t, ")")))
		wantNone(t, slices.Concat(many("("), toks(t, "7"), many(")")[1:]))
		wantNone(t, many("("))
		wantNone(t, many(")"))
		wantNone(t, many("-"))
		wantNone(t, many("1", "2"))
		wantNone(t, slices.Concat(many("1", "?"), toks(t, "1")))
		wantValue(t, slices.Concat(many("-", "~"), toks(t, "5u")), 5+uint64(n), true)
		wantValue(t, slices.Concat(many("!", "!"), toks(t, "5u")), 1, false)
		wantValue(t, slices.Concat(toks(t, "5"), many("-", "1")), 5-uint64(n), false)
		wantValue(t, slices.Concat(many("0", "?", "1", "/", "0", ":"), toks(t, "9u")), 9, true)
		wantValue(t, slices.Concat(many("1", "?"), toks(t, "9"), many(":", "1", "/", "0")), 9, false)
		wantValue(t, slices.Concat(many("0", "||", "("), toks(t, "9"), many(")")), 1, false)
		wantValue(t, slices.Concat(toks(t, "0", "&&", "("), many("1", "/", "("), toks(t, "0"), many(")"), toks(t, ")")), 0, false)
		wantNone(t, slices.Concat(many("1", "+", "("), toks(t, "1", "/", "0"), many(")")))
	}
}

// P5.2: a token's kind tells what it is; its place, and blanks, do not matter.
func TestTokens(t *testing.T) {
	for _, wrong := range []api.Tok{
		{}, {Kind: api.TOther, S: "1"}, {Kind: api.TText, S: "1"}, {Kind: api.TPunct, S: "1"}, {Kind: 0, S: "1"}, {Kind: 7, S: "1"}, {Kind: -1, S: "X"},
		{Kind: api.TNumber}, {Kind: api.TNumber, S: "X"}, {Kind: api.TNumber, S: "'a'"}, {Kind: api.TNumber, S: "-1"}, {Kind: api.TChar}, {Kind: api.TChar, S: "1"}, {Kind: api.TChar, S: "a"},
		{Kind: api.TChar, S: "'\n'"}, {Kind: api.TChar, S: "'\r'"}, {Kind: api.TChar, S: "'\r\n'"},
		{Kind: api.TOther, S: "X"}, {Kind: api.TPunct}, {Kind: api.TPunct, S: "()"}, {Kind: api.TPunct, S: "X"},
	} {
		wantNone(t, []api.Tok{wrong})
		wantNone(t, slices.Concat(toks(t, "0", "&&"), []api.Tok{wrong}))
		wantNone(t, slices.Concat([]api.Tok{wrong}, toks(t, "+", "1")))
		wantNone(t, slices.Concat(toks(t, "1"), []api.Tok{wrong}, toks(t, "1")))
		wantNone(t, slices.Concat(toks(t, "1"), []api.Tok{wrong}))
	}
	for _, kind := range []int{0, api.TNumber, api.TChar, api.TText, api.TOther, 7} {
		l := toks(t, "(", "-", "1", "+", "2", "?", "3", ":", "4", ")")
		for i := range l {
			if l[i].Kind == api.TPunct {
				other := slices.Clone(l)
				other[i].Kind = kind
				wantNone(t, other)
			}
		}
	}
	l := lex(t, "1+2*(3-X)?'a'<<1:0u")
	for i := range l {
		l[i].File, l[i].Line, l[i].Space, l[i].First = "f"+strconv.Itoa(i), -i, i%2 == 0, i%3 == 0
	}
	wantValue(t, l, 194, true)
}

// R3: what is handed in is as it was, its spare room too, and none is as good as nothing in it.
func TestMemory(t *testing.T) {
	wantNone(t, nil)
	wantNone(t, []api.Tok{})
	for _, s := range []string{"1 + 2 * 3", "(1 ? 2 : 3) - -4", "1 / 0", "1 +", "((((1", "1 ? 2 : 0 && 1 / 0"} {
		l := lex(t, s)
		room := slices.Concat(l, slices.Repeat([]api.Tok{{Kind: 9, S: "spare"}}, 8))
		kept := slices.Clone(room)
		v, u, e := cond.Eval(room[:len(l)])
		if !slices.Equal(room, kept) {
			t.Errorf("%q: written into", s)
		}
		if v2, u2, e2 := cond.Eval(l); v != v2 || u != u2 || e != e2 {
			t.Errorf("%q: %d, %t, %d, then %d, %t, %d", s, v, u, e, v2, u2, e2)
		}
	}
}

// R1: any bytes.
func FuzzAny(f *testing.F) {
	for _, s := range []string{"", "0x", "'\\", "'\\x'", "1 ? : 2", "\xff\x00", "''", "((", "))"} {
		f.Add(s, 2)
	}
	f.Fuzz(func(t *testing.T, s string, kind int) {
		if v, _ := bareNumber(s); v != nil {
			wantNumber(t, s, v.bits(), v.unsigned)
		} else {
			wantNoNumber(t, s)
		}
		if v := bareChar(s); v != nil {
			wantChar(t, s, v.n.Int64())
		} else {
			wantNoChar(t, s)
		}
		l, _, _ := token.Lex([]api.Line{{S: s}})
		wantBare(t, l)
		wantBare(t, []api.Tok{{Kind: kind, S: s}})
	})
}

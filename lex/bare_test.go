package lex_test

import (
	"math/big"
	"regexp"
	"slices"
	"strings"

	"burin/api"
)

// A second reading of the chapter, for tests to hold the first one against: forms are regular expressions, each suffix has its list of kinds, and numbers have no bounds.

var (
	bareNameForm   = regexp.MustCompile(`^[A-Za-z_][A-Za-z_0-9]*$`)
	bareNumberForm = regexp.MustCompile(`^(?:0[xX]([0-9a-fA-F]+)|(0[0-7]*)|([1-9][0-9]*))(|[uU](?:l|L|ll|LL)?|(?:l|L|ll|LL)[uU]?)$`)
	bareCharForm   = regexp.MustCompile(`^'([^'\\\n\r]|\\x[0-9a-fA-F]+|\\[0-7]{1,3}|\\[^x0-7\n\r])'$`)
	bareTextForm   = regexp.MustCompile(`^"((?:[^"\\\n\r]|\\[^\n\r])*)"$`)
	barePiece      = regexp.MustCompile(`\\x[0-9a-fA-F]*|\\[0-7]{1,3}|(?s)\\.|(?s).`)
)

const bareKeys = " char short int long signed unsigned void if else while return break continue struct union extern "

const bareSigns = " [ ] ( ) { } . -> ++ -- & * + - ~ ! / % << >> < > <= >= == != ^ | && || ? : ; ... = *= /= %= += -= <<= >>= &= ^= |= , "

// bareKinds are those of a number without `u` and `l`, of one with either, of one with both; first of a decimal one, then of others.
var bareKinds = map[string][2][]int{
	"":   {{api.KInt, api.KLong}, {api.KInt, api.KUInt, api.KLong, api.KULong}},
	"u":  {{api.KUInt, api.KULong}, {api.KUInt, api.KULong}},
	"l":  {{api.KLong}, {api.KLong, api.KULong}},
	"lu": {{api.KULong}, {api.KULong}},
}

// bareEnds are the powers of 2 that the kinds' numbers lie below.
var bareEnds = map[int]uint{api.KInt: 31, api.KUInt: 32, api.KLong: 63, api.KULong: 64}

// runes are bytes, a rune each, so that forms count bytes.
func runes(s string) string {
	var b strings.Builder
	for i := range len(s) {
		b.WriteRune(rune(s[i]))
	}
	return b.String()
}

func bareListed(list, s string) bool {
	return s != "" && !strings.Contains(s, " ") && strings.Contains(list, " "+s+" ")
}

func bareName(s string) bool { return bareNameForm.MatchString(s) }

// bareNumber is a number's value and kind.
func bareNumber(s string) (int64, int, bool) {
	m := bareNumberForm.FindStringSubmatch(s)
	if m == nil {
		return 0, 0, false
	}
	n, base := new(big.Int), 10
	switch {
	case m[1] != "":
		base = 16
	case m[2] != "":
		base = 8
	}
	n.SetString(m[1]+m[2]+m[3], base)
	letters := strings.Split(strings.ReplaceAll(strings.ToLower(m[4]), "ll", "l"), "")
	slices.Sort(letters)
	kinds := bareKinds[strings.Join(letters, "")]
	of := kinds[1]
	if base == 10 {
		of = kinds[0]
	}
	for _, kind := range of {
		if n.BitLen() <= int(bareEnds[kind]) {
			return int64(n.Uint64()), kind, true
		}
	}
	return 0, 0, false
}

// bareByte is what a byte, or an escape, is worth, or below 0. It takes runes.
func bareByte(piece string) int64 {
	l := []rune(piece)
	if l[0] != '\\' {
		return int64(l[0])
	}
	code := string(l[1:])
	if i := strings.Index("ntvbrfa\\'\"?", code); i >= 0 && code != "" {
		return int64("\n\t\v\b\r\f\a\\'\"?"[i])
	}
	n, ok := new(big.Int), false
	if strings.HasPrefix(code, "x") {
		n, ok = n.SetString(code[1:], 16)
	} else if len(code) > 0 && '0' <= code[0] && code[0] <= '7' {
		n, ok = n.SetString(code, 8)
	}
	if !ok || n.Cmp(big.NewInt(255)) > 0 {
		return -1
	}
	return n.Int64()
}

func bareChar(s string) (int64, bool) {
	m := bareCharForm.FindStringSubmatch(runes(s))
	if m == nil {
		return 0, false
	}
	n := bareByte(m[1])
	if n < 0 {
		return 0, false
	}
	return int64(int8(n)), true
}

func bareText(s string) (string, bool) {
	m := bareTextForm.FindStringSubmatch(runes(s))
	if m == nil {
		return "", false
	}
	var l []byte
	for _, piece := range barePiece.FindAllString(m[1], -1) {
		n := bareByte(piece)
		if n < 0 {
			return "", false
		}
		l = append(l, byte(n))
	}
	return string(l), true
}

// bareOne is the word that a token that is no text comes to.
func bareOne(t api.Tok) (w api.Word, ok bool) {
	switch {
	case t.Kind == api.TName && bareListed(bareKeys, t.S):
		w, ok = api.Word{Kind: api.WKey, S: t.S}, true
	case t.Kind == api.TName:
		w, ok = api.Word{Kind: api.WName, S: t.S}, bareName(t.S)
	case t.Kind == api.TPunct:
		w, ok = api.Word{Kind: api.WPunct, S: t.S}, bareListed(bareSigns, t.S)
	case t.Kind == api.TNumber:
		w.Kind = api.WInt
		w.V, w.T, ok = bareNumber(t.S)
	case t.Kind == api.TChar:
		w.Kind, w.T = api.WInt, api.KInt
		w.V, ok = bareChar(t.S)
	}
	w.File, w.Line = t.File, t.Line
	return w, ok
}

// bareWords are the words of tokens, or the place of the first one that comes to none; below 0, if all come to some.
func bareWords(l []api.Tok) ([]api.Word, int) {
	var told []api.Word
	begun := -1 // where the text that goes on began
	for i, t := range l {
		if t.Kind != api.TText {
			w, ok := bareOne(t)
			if !ok {
				return nil, i
			}
			told, begun = append(told, w), -1
			continue
		}
		s, ok := bareText(t.S)
		if !ok {
			return nil, i
		}
		if begun < 0 {
			told, begun = append(told, api.Word{Kind: api.WText, File: t.File, Line: t.Line}), i
		}
		last := &told[len(told)-1]
		if last.S += s; len(last.S) > 4096 {
			return nil, begun
		}
	}
	return told, -1
}

// bareRight tells whether some token comes to a word.
func bareRight(w api.Word) bool {
	switch {
	case w.Kind == api.WInt:
		n := big.NewInt(w.V)
		if w.T == api.KULong {
			n.SetUint64(uint64(w.V))
		}
		end, there := bareEnds[w.T]
		return w.S == "" && there && (n.Sign() >= 0 && n.BitLen() <= int(end) || w.T == api.KInt && w.V < 0 && w.V > -129)
	case w.V != 0 || w.T != 0:
		return false
	case w.Kind == api.WKey:
		return bareListed(bareKeys, w.S)
	case w.Kind == api.WName:
		return bareName(w.S) && !bareListed(bareKeys, w.S)
	case w.Kind == api.WPunct:
		return bareListed(bareSigns, w.S)
	}
	return w.Kind == api.WText && len(w.S) <= 4096
}

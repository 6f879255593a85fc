package lex

import (
	"strings"

	"burin/api"
	"burin/cond"
)

const mostOctal = 3 // digits of an escape

// unquoted are the bytes that a text stands for, and whether it is one. A line end within it is refused here, as a token stands in one line, but a line that is handed to token may have one.
func unquoted(s string) (string, bool) {
	if !spelt(s, api.TText) || strings.ContainsAny(s, "\r\n") {
		return "", false
	}
	var b strings.Builder
	for rest := s[1 : len(s)-1]; len(rest) > 0; {
		c, size, ok := firstByte(rest)
		if !ok {
			return "", false
		}
		b.WriteByte(c)
		rest = rest[size:]
	}
	return b.String(), true
}

// firstByte is the byte that the inside of a text begins with, and of how many it comes. An escape is worth there what it is as a character.
func firstByte(s string) (byte, int, bool) {
	if s[0] != '\\' {
		return s[0], 1, true
	}
	size := escapeSize(s)
	worth, errno := cond.Char("'" + s[:size] + "'")
	return byte(worth), size, errno == api.OK
}

// escapeSize takes as many digits as an escape can have. No text ends in a `\`, so a byte stands behind it.
func escapeSize(s string) int {
	if s[1] == 'x' {
		return len(`\x`) + digits(s[len(`\x`):], "0123456789abcdefABCDEF")
	}
	code := s[1:min(len(s), 1+mostOctal)]
	return 1 + max(1, digits(code, "01234567"))
}

// digits is how many of these digits a text begins with.
func digits(s, these string) int {
	size := 0
	for size < len(s) && strings.IndexByte(these, s[size]) >= 0 {
		size++
	}
	return size
}

// quoted escapes each byte by three digits, so that no byte behind can go on with them.
func quoted(s string) string {
	var b strings.Builder
	b.WriteByte('"')
	for i := range len(s) {
		b.WriteString(escape(s[i]))
	}
	b.WriteByte('"')
	return b.String()
}

func escape(c byte) string {
	return string([]byte{'\\', '0' + c>>6, '0' + c>>3&7, '0' + c&7})
}

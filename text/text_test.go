package text_test

import (
	"fmt"
	"math"
	"slices"
	"strings"
	"testing"

	"burin/api"
	"burin/text"
)

func line(n int, s string) api.Line { return api.Line{N: n, S: s} }

// show keeps a failure of a great file readable.
func show(l []api.Line) string { return fmt.Sprintf("%.300s", fmt.Sprintf("%#v", l)) }

func wantLines(t *testing.T, data string, want []api.Line) {
	t.Helper()
	got, e := text.Lines(data)
	if e != api.OK || !slices.Equal(got, want) {
		t.Errorf("Lines(%.200q) = %s, %d; want %s", data, show(got), e, show(want))
	}
}

// every hands on all texts of at most so many bytes of an alphabet.
func every(alphabet string, most int, check func(string)) {
	level := []string{""}
	for n := 0; ; n++ {
		for _, s := range level {
			check(s)
		}
		if n == most {
			return
		}
		var next []string
		for _, s := range level {
			for i := range len(alphabet) {
				next = append(next, s+alphabet[i:i+1])
			}
		}
		level = next
	}
}

// bareLines are the physical lines, found otherwise than the program does it.
func bareLines(data string) []string {
	data = strings.ReplaceAll(data, "\r\n", "\n")
	data = strings.ReplaceAll(data, "\r", "\n")
	l := strings.Split(data, "\n")
	if l[len(l)-1] == "" {
		l = l[:len(l)-1]
	}
	return l
}

// bareLogical are the logical lines, put together from behind.
func bareLogical(data string) []api.Line {
	var l []api.Line
	bare := bareLines(data)
	for i := len(bare) - 1; i >= 0; i-- {
		head, open := strings.CutSuffix(bare[i], `\`)
		if last := len(l) - 1; open && last >= 0 {
			l[last] = line(i+1, head+l[last].S)
		} else {
			l = append(l, line(i+1, bare[i]))
		}
	}
	slices.Reverse(l)
	return l
}

// P1.1: ordinary texts, and the edges that the chapter names.
func TestLines(t *testing.T) {
	for data, want := range map[string][]api.Line{
		"":                    nil,
		"a":                   {line(1, "a")},
		"a\n":                 {line(1, "a")},
		"a\r\nb\rc":           {line(1, "a"), line(2, "b"), line(3, "c")},
		"a\r\rb":              {line(1, "a"), line(2, ""), line(3, "b")},
		"a\n\rb":              {line(1, "a"), line(2, ""), line(3, "b")},
		"a\r\r\nb":            {line(1, "a"), line(2, ""), line(3, "b")},
		"a\n\n":               {line(1, "a"), line(2, "")},
		"\n":                  {line(1, "")},
		"\r\n":                {line(1, "")},
		"\n\r":                {line(1, ""), line(2, "")},
		"a\\\nb\nc\n":         {line(1, "ab"), line(3, "c")},
		"a\\\r\nb\\\rc\nd":    {line(1, "abc"), line(4, "d")},
		"a\\\n\\\n\\\nb\nc":   {line(1, "ab"), line(5, "c")},
		"x\na\\\n\\\nb\ny":    {line(1, "x"), line(2, "ab"), line(5, "y")},
		"a\\\n\nb":            {line(1, "a"), line(3, "b")},
		"a\\\\\nb":            {line(1, "a\\b")},
		"a\\ \nb":             {line(1, "a\\ "), line(2, "b")},
		"a\\b\nc":             {line(1, "a\\b"), line(2, "c")},
		"a\\":                 {line(1, "a\\")},
		"a\\\n":               {line(1, "a\\")},
		"a\\\r\n":             {line(1, "a\\")},
		"a\\\n\\":             {line(1, "a\\")},
		"a\\\n\\\n":           {line(1, "a\\")},
		"\\":                  {line(1, "\\")},
		"\\\n\n":              {line(1, "")},
		"a\x00\xff\v\f\u2028": {line(1, "a\x00\xff\v\f\u2028")},
	} {
		wantLines(t, data, want)
	}
}

// P1.1, P1.2: all short texts of what matters.
func TestEveryShortText(t *testing.T) {
	every("a\\\r\n", 7, func(data string) {
		wantLines(t, data, bareLogical(data))
		if n := text.Physical(data); n != len(bareLines(data)) {
			t.Errorf("Physical(%q) = %d; want %d", data, n, len(bareLines(data)))
		}
	})
}

// P1.1: 65536 bytes are a file, one more is too long, whatever it is made of.
func TestLong(t *testing.T) {
	for _, unit := range []string{"a", "\n", "\r", "\r\n", "\\", "a\n", "\\\n", "\x00"} {
		data := strings.Repeat(unit, api.MaxFile/len(unit))
		if len(data) != 65536 {
			t.Fatalf("%q: %d bytes", unit, len(data))
		}
		wantLines(t, data, bareLogical(data))
		for _, long := range []string{data + "a", data + "\n", data + "\\", data + data} {
			if l, e := text.Lines(long); e != api.ErrLong || len(l) != 0 {
				t.Errorf("%d bytes of %q: %d lines, %d", len(long), unit, len(l), e)
			}
		}
	}
}

// P1.1 and rule R3: an answer is its caller's own.
func TestLinesAreNew(t *testing.T) {
	const data = "a\\\nb\nc"
	l, _ := text.Lines(data)
	l[0] = line(9, "z")
	_ = append(l[:1], line(8, "y"))
	wantLines(t, data, []api.Line{line(1, "ab"), line(3, "c")})
}

// P1.2: splices do not matter, nor does how long the text is.
func TestPhysical(t *testing.T) {
	for data, want := range map[string]int{
		"":              0,
		"a":             1,
		"a\n":           1,
		"a\n\nb":        3,
		"a\r\nb\rc":     3,
		"a\r\n\rb":      3,
		"\r\r\n\n":      3,
		"\n\r":          2,
		"a\\\nb\nc\n":   3,
		"a\\":           1,
		"a\\\n":         1,
		"\\\n\\\n\\\n ": 4,
	} {
		if n := text.Physical(data); n != want {
			t.Errorf("Physical(%q) = %d; want %d", data, n, want)
		}
	}
	for unit, lines := range map[string]int{"\n": 1, "\r": 1, "\r\n": 1, "ab\n\r": 2, "\\\n": 1, "a\\\r\n\n": 2} {
		for _, times := range []int{65535, 65536, 65537, 300000} {
			if n := text.Physical(strings.Repeat(unit, times)); n != lines*times {
				t.Errorf("%d times %q: %d", times, unit, n)
			}
		}
	}
	if n := text.Physical(strings.Repeat("a", 65537)); n != 1 {
		t.Errorf("a long line: %d", n)
	}
}

// P1.3: the text itself.
func TestJoin(t *testing.T) {
	for _, c := range []struct {
		lines []api.Line
		want  string
	}{
		{nil, ""},
		{[]api.Line{}, ""},
		{[]api.Line{line(1, "")}, "\n"},
		{[]api.Line{line(1, "a"), line(2, "b")}, "a\nb\n"},
		{[]api.Line{line(1, "ab"), line(3, "c")}, "ab\\\n\nc\n"},
		{[]api.Line{line(1, ""), line(4, "c"), line(5, "")}, "\\\n\\\n\nc\n\n"},
		{[]api.Line{line(1, `a\b`), line(2, "\x00\xff")}, "a\\b\n\x00\xff\n"},
	} {
		if s := text.Join(c.lines); s != c.want {
			t.Errorf("Join(%s) = %q; want %q", show(c.lines), s, c.want)
		}
	}
}

// P1.3: a text that is too long for Lines is told all the same.
func TestJoinLong(t *testing.T) {
	for _, gap := range []int{32765, 32766, 32767, 100000} {
		l := []api.Line{line(1, "a"), line(gap+2, "b")}
		s := text.Join(l)
		if want := "a" + strings.Repeat("\\\n", gap) + "\nb\n"; s != want {
			t.Errorf("gap %d: %d bytes; want %d", gap, len(s), len(want))
		}
		if len(s) <= api.MaxFile {
			wantLines(t, s, l)
		} else if _, e := text.Lines(s); e != api.ErrLong {
			t.Errorf("gap %d: %d", gap, e)
		}
	}
}

// P1.3 and rule R1: of wrong lines there is some text, and no panic.
func TestJoinWrong(t *testing.T) {
	numbers := []int{math.MinInt, math.MinInt + 1, math.MinInt32, -1, 0, 1, 2, 3, math.MaxInt - 1, math.MaxInt}
	texts := []string{"", "a", "\n", "\r", "a\r\nb", "\\", "a\\\n", "\n\\"}
	for _, a := range numbers {
		for _, b := range numbers {
			for _, s := range texts {
				text.Lines(text.Join([]api.Line{line(a, s), line(b, s)}))
				text.Lines(text.Join([]api.Line{line(a, s), line(b, ""), line(a, s)}))
			}
		}
		text.Join([]api.Line{line(a, "a")})
	}
}

// P1.3 and rule R3: what is handed in stays as it is, spare room too.
func TestJoinKeepsLines(t *testing.T) {
	room := []api.Line{line(1, "a"), line(4, "b"), line(7, "c")}
	text.Join(room[:2])
	if want := []api.Line{line(1, "a"), line(4, "b"), line(7, "c")}; !slices.Equal(room, want) {
		t.Error(show(room))
	}
}

// P1.4: every choice of line ends gives the same lines.
func TestAnyLineEnds(t *testing.T) {
	ends := []string{"\n", "\r", "\r\n"}
	for _, pieces := range [][]string{
		{"a", "b", "c", "d"},
		{"a\\", "b", "\\", "d\\"},
		{"a", "b\\", "\\", "\\"},
		{"x\\\\", "y\\ ", "z", "\\"},
	} {
		want, _ := text.Lines(strings.Join(pieces, "\n") + "\n")
		for choice := range 81 {
			data := ""
			for _, p := range pieces {
				data += p + ends[choice%3]
				choice /= 3
			}
			wantLines(t, data, want)
			if n := text.Physical(data); n != len(pieces) {
				t.Errorf("Physical(%q) = %d", data, n)
			}
		}
	}
	// An empty piece behind 0D may not end in 0A: those two would be one line end.
	for _, end := range ends {
		data := strings.ReplaceAll("\n\na\\\n\nb\n\n", "\n", end)
		wantLines(t, data, []api.Line{line(1, ""), line(2, ""), line(3, "a"), line(5, "b"), line(6, "")})
	}
}

// P1.4: lines that are joined come back.
func TestJoinedComeBack(t *testing.T) {
	texts := []string{"", "a", `\a`, "b c"}
	for choice := range 1024 {
		var l []api.Line
		n, c := 1, choice
		for range 3 {
			l = append(l, line(n, texts[c%4]))
			n += 1 + c/4%4
			c /= 16
		}
		wantLines(t, text.Join(l), l)
	}
	every("a\\\r\n", 6, func(data string) {
		l, _ := text.Lines(data)
		for _, x := range l {
			if strings.HasSuffix(x.S, `\`) {
				return
			}
		}
		wantLines(t, text.Join(l), l)
	})
}

// P1.4: a splice more, within a line, changes only the numbers behind it.
func TestOneSpliceMore(t *testing.T) {
	for _, end := range []string{"\n", "\r", "\r\n"} {
		l := []api.Line{line(1, `a\b`), line(2, ""), line(5, "cd"), line(7, "ef")}
		data := text.Join(l)
		for i, x := range l {
			start := strings.Index(data, x.S)
			if x.S == "" {
				start = len("a\\b\n")
			}
			for at := start; at <= start+len(x.S); at++ {
				want := slices.Clone(l)
				for j := i + 1; j < len(want); j++ {
					want[j].N++
				}
				more := data[:at] + "\\\n" + data[at:]
				wantLines(t, strings.ReplaceAll(more, "\n", end), want)
			}
		}
	}
}

package kind_test

import (
	"math"
	"slices"
	"strings"
	"testing"

	"burin/api"
	"burin/kind"
)

var kinds = []int{api.KChar, api.KUChar, api.KShort, api.KUShort, api.KInt, api.KUInt, api.KLong, api.KULong}

// noKinds are numbers that are none, some of which have a kind in their lowest bits.
var noKinds = []int{0, -1, -2, -5, -8, -9, 9, 10, 11, 16, 80, 255, 256, 257, 1<<16 + 2, 1<<32 + 5, -1<<32 + 8, math.MaxInt32, math.MinInt32, math.MaxInt, math.MinInt, math.MinInt + 1}

// sayings are the words that kinds are said with.
var sayings = []string{"char", "short", "int", "long", "signed", "unsigned"}

// noSayings are words that are none.
var noSayings = []string{
	"", " ", "void", "Int", "INT", "in", "ints", "int ", " int", "int\n", "int\x00", "long long", "unsigned int", "signedint", "double", "float", "_Bool", "const", "if", "struct", "x", "5", "*", "\xff", "\x00",
}

// values are the kinds' ends and what lies around them, and bits of all sorts.
func values() []int64 {
	l := []int64{0, 300, 200, 70000, 0x55, 0x5555555555555555, -0x5555555555555556, 0x0123456789abcdef, -0x0123456789abcdef, 0x7f80ff00807f00ff}
	for n := range 64 {
		for _, by := range []int64{-2, -1, 0, 1, 2} {
			l = append(l, 1<<n+by, -1<<n+by)
		}
	}
	bits := uint64(1)
	for range 500 {
		bits = bits*6364136223846793005 + 1442695040888963407
		l = append(l, int64(bits), int64(bits>>24), int64(bits>>48))
	}
	return l
}

func wantOf(t *testing.T, words []string, want int) {
	t.Helper()
	errno := api.OK
	if want == 0 {
		errno = api.ErrKind
	}
	if k, e := kind.Of(words); k != want || e != errno {
		t.Errorf("%.300q: %d, %d; want %d, %d", words, k, e, want, errno)
	}
}

func wantTo(t *testing.T, v int64, k int, want int64) {
	t.Helper()
	if made, e := kind.To(v, k); made != want || e != api.OK {
		t.Errorf("%d to %d: %d, %d; want %d", v, k, made, e, want)
	}
}

// wantBareValue holds a number against the second reading, and P8.5 of it.
func wantBareValue(t *testing.T, v int64, k int) {
	t.Helper()
	b := bareKinds[k]
	wantTo(t, v, k, b.to(v))
	if kind.Lies(v, k) != b.lies(v) {
		t.Errorf("%d lies in %d: %t", v, k, !b.lies(v))
	}
	made, _ := kind.To(v, k)
	if !kind.Lies(made, k) {
		t.Errorf("%d, made of %d, does not lie in %d", made, v, k)
	}
	if kind.Lies(v, k) && made != v {
		t.Errorf("%d lies in %d, and is made %d", v, k, made)
	}
	wantTo(t, made, k, made)
}

func wantUsual(t *testing.T, a, b, want int) {
	t.Helper()
	if k, e := kind.Usual(a, b); k != want || e != api.OK {
		t.Errorf("%d and %d: %d, %d; want %d", a, b, k, e, want)
	}
}

// every hands on all lists that are at most so many of the pieces.
func every(pieces []string, most int, begin []string, check func([]string)) {
	check(begin)
	if most == 0 {
		return
	}
	for _, p := range pieces {
		every(pieces, most-1, append(begin[:len(begin):len(begin)], p), check)
	}
}

// orders hands on a list in each order.
func orders(l, begin []string, check func([]string)) {
	if len(l) == 0 {
		check(begin)
	}
	for i := range l {
		rest := slices.Delete(slices.Clone(l), i, i+1)
		orders(rest, append(begin[:len(begin):len(begin)], l[i]), check)
	}
}

// The chapter's examples, and those of the whole that are of kinds.
func TestExamples(t *testing.T) {
	wantTo(t, 300, api.KUChar, 44)
	wantTo(t, 200, api.KChar, -56)
	wantTo(t, -1, api.KUInt, 4294967295)
	wantTo(t, -1, api.KULong, -1)
	wantUsual(t, api.KChar, api.KUShort, api.KInt)
	wantUsual(t, api.KInt, api.KUInt, api.KUInt)
	wantUsual(t, api.KUInt, api.KLong, api.KLong)
	wantUsual(t, api.KLong, api.KULong, api.KULong)
	wantOf(t, []string{"unsigned"}, api.KUInt)
	wantOf(t, []string{"int", "long", "unsigned"}, api.KULong)
	wantOf(t, []string{"short", "char"}, 0)
}

// P8.1: each kind.
func TestTold(t *testing.T) {
	for _, x := range []struct {
		k, size  int
		unsigned bool
		name     string
	}{
		{api.KChar, 1, false, "char"},
		{api.KUChar, 1, true, "unsigned char"},
		{api.KShort, 2, false, "short"},
		{api.KUShort, 2, true, "unsigned short"},
		{api.KInt, 4, false, "int"},
		{api.KUInt, 4, true, "unsigned int"},
		{api.KLong, 8, false, "long"},
		{api.KULong, 8, true, "unsigned long"},
		{api.KVoid, 0, false, "void"},
	} {
		size, unsigned, name := kind.Size(x.k), kind.Unsigned(x.k), kind.Name(x.k)
		if size != x.size || unsigned != x.unsigned || name != x.name {
			t.Errorf("%d: %d, %t, %q; want %d, %t, %q", x.k, size, unsigned, name, x.size, x.unsigned, x.name)
		}
	}
}

// P8.1, P8.3, P8.4: numbers that are no kind, alone and beside one that is.
func TestNoKinds(t *testing.T) {
	for _, k := range noKinds {
		name := ""
		if k == api.KVoid {
			name = "void"
		}
		if kind.Size(k) != 0 || kind.Unsigned(k) || kind.Name(k) != name {
			t.Errorf("%d: %d, %t, %q", k, kind.Size(k), kind.Unsigned(k), kind.Name(k))
		}
		for _, v := range values() {
			if made, e := kind.To(v, k); made != 0 || e != api.ErrKind || kind.Lies(v, k) {
				t.Errorf("%d of %d: %d, %d, %t", v, k, made, e, kind.Lies(v, k))
			}
		}
		if p, e := kind.Promoted(k); p != 0 || e != api.ErrKind {
			t.Errorf("promoted %d: %d, %d", k, p, e)
		}
		for _, other := range slices.Concat(kinds, noKinds) {
			a, e := kind.Usual(k, other)
			b, e2 := kind.Usual(other, k)
			if a != 0 || b != 0 || e != api.ErrKind || e2 != api.ErrKind {
				t.Errorf("%d and %d: %d, %d; %d, %d", k, other, a, e, b, e2)
			}
		}
	}
}

// P8.2: each list that says a kind, in each order, and what one word more or less makes of it.
func TestOf(t *testing.T) {
	for k, b := range bareKinds {
		for _, said := range b.said {
			orders(strings.Fields(said), nil, func(words []string) {
				wantOf(t, words, k)
				wantOf(t, words[1:], bareOf(words[1:]))
				for _, more := range slices.Concat(sayings, noSayings) {
					for i := range len(words) + 1 {
						l := slices.Insert(slices.Clone(words), i, more)
						wantOf(t, l, bareOf(l))
					}
				}
			})
		}
	}
}

// P8.2: words that say none.
func TestOfNone(t *testing.T) {
	wantOf(t, nil, 0)
	wantOf(t, []string{}, 0)
	for _, s := range []string{
		"char char", "short short", "int int", "signed signed", "unsigned unsigned", "signed unsigned", "unsigned signed",
		"long long long", "long int long long", "unsigned long long long", "long long long long",
		"char short", "char long", "char long long", "short long", "long short", "long short long", "char int", "int char", "signed char int", "int unsigned char",
		"short int short", "int short int", "int long int", "long int long int", "unsigned int int", "signed int unsigned", "unsigned char signed",
		"void", "void int", "int void", "unsigned void", "int x", "const int", "Int", "int ;",
	} {
		wantOf(t, strings.Fields(s), 0)
	}
	for _, w := range noSayings {
		wantOf(t, []string{w}, 0)
		wantOf(t, []string{w, w}, 0)
	}
}

// P8.2: all lists of some words against the second reading.
func TestEveryList(t *testing.T) {
	said := map[int]int{}
	every(append([]string{"void"}, sayings...), 5, nil, func(words []string) {
		k := bareOf(words)
		said[k]++
		wantOf(t, words, k)
	})
	for _, k := range slices.Concat([]int{0}, kinds) {
		if said[k] == 0 {
			t.Errorf("no list says %d", k)
		}
	}
}

// P8.3: both ends of each kind's values, and one more.
func TestEnds(t *testing.T) {
	for _, x := range []struct {
		k         int
		low, high int64
	}{
		{api.KChar, -128, 127},
		{api.KUChar, 0, 255},
		{api.KShort, -32768, 32767},
		{api.KUShort, 0, 65535},
		{api.KInt, -2147483648, 2147483647},
		{api.KUInt, 0, 4294967295},
	} {
		for _, v := range []int64{x.low, x.low + 1, x.high - 1, x.high} {
			if !kind.Lies(v, x.k) {
				t.Errorf("%d does not lie in %d", v, x.k)
			}
			wantTo(t, v, x.k, v)
		}
		for _, v := range []int64{x.low - 1, x.high + 1, math.MinInt64, math.MaxInt64} {
			if kind.Lies(v, x.k) {
				t.Errorf("%d lies in %d", v, x.k)
			}
		}
		wantTo(t, x.high+1, x.k, x.low)
		wantTo(t, x.low-1, x.k, x.high)
		wantTo(t, x.high+x.high-x.low+1, x.k, x.high)
	}
}

// P8.3: of the kinds of 64 bits each number is a value; of KULong those below 0 stand for 2^63 and above.
func TestLongs(t *testing.T) {
	great := uint64(1) << 63
	for _, v := range append(values(), math.MinInt64, math.MaxInt64, int64(great), int64(great+1), -1) {
		for _, k := range []int{api.KLong, api.KULong} {
			if !kind.Lies(v, k) {
				t.Errorf("%d does not lie in %d", v, k)
			}
			wantTo(t, v, k, v)
		}
	}
}

// P8.3, P8.5: numbers of all sorts against the second reading.
func TestValues(t *testing.T) {
	for _, k := range kinds {
		for _, v := range values() {
			wantBareValue(t, v, k)
		}
	}
}

// P8.3, P8.5: all low bits of the short kinds, whatever stands ahead of them.
func TestShortKinds(t *testing.T) {
	for _, ahead := range []int64{0, 1 << 16, -1 << 16, 1<<31 - 1<<16, 1 << 62, -1 << 63} {
		for low := range int64(1 << 16) {
			for _, k := range []int{api.KChar, api.KUChar, api.KShort, api.KUShort} {
				v, signed := ahead+low, bareKinds[k].signed
				count := int64(1) << bareKinds[k].bits
				want := low % count
				if signed && want >= count/2 {
					want -= count
				}
				if made, e := kind.To(v, k); made != want || e != api.OK || kind.Lies(v, k) != (v == want) {
					t.Fatalf("%d to %d: %d, %d, %t; want %d", v, k, made, e, kind.Lies(v, k), want)
				}
			}
		}
	}
}

// P8.4: each kind promoted; that has all of its values.
func TestPromoted(t *testing.T) {
	want := map[int]int{
		api.KChar: api.KInt, api.KUChar: api.KInt, api.KShort: api.KInt, api.KUShort: api.KInt,
		api.KInt: api.KInt, api.KUInt: api.KUInt, api.KLong: api.KLong, api.KULong: api.KULong,
	}
	for _, k := range kinds {
		p, e := kind.Promoted(k)
		if p != want[k] || e != api.OK {
			t.Errorf("%d: %d, %d; want %d", k, p, e, want[k])
		}
		low, high := bareKinds[k].ends()
		for _, v := range []int64{bareKinds[k].handed(low), bareKinds[k].handed(high)} {
			if !kind.Lies(v, p) {
				t.Errorf("%d of %d does not lie in %d", v, k, p)
			}
		}
		if again, e := kind.Promoted(p); again != p || e != api.OK {
			t.Errorf("%d, promoted again: %d, %d", p, again, e)
		}
	}
}

// P8.4, P8.5: each pair of kinds, in both orders; a signed one has all values of both.
func TestUsual(t *testing.T) {
	for _, a := range kinds {
		for _, b := range kinds {
			want := bareUsualOf(a, b)
			wantUsual(t, a, b, want)
			wantUsual(t, b, a, want)
			p, _ := kind.Promoted(a)
			q, _ := kind.Promoted(b)
			wantUsual(t, p, q, want)
			low, high := bareKinds[a].ends()
			if !kind.Unsigned(want) && !(kind.Lies(bareKinds[a].handed(low), want) && kind.Lies(bareKinds[a].handed(high), want)) {
				t.Errorf("%d and %d: %d has not all values of %d", a, b, want, a)
			}
		}
	}
}

// P8.5: a name's words say the kind, in each order.
func TestNamesSay(t *testing.T) {
	for _, k := range kinds {
		orders(strings.Split(kind.Name(k), " "), nil, func(words []string) { wantOf(t, words, k) })
	}
	wantOf(t, strings.Fields(kind.Name(api.KVoid)), 0)
}

// R3, R4: what is handed in is as it was, its spare room too, and is not kept; asked again, the answer is the same.
func TestMemory(t *testing.T) {
	for _, s := range []string{"", "unsigned", "int long unsigned", "long int long", "long long long", "short x int"} {
		words := strings.Fields(s)
		room := slices.Concat(words, slices.Repeat([]string{"spare"}, 8))
		kept := slices.Clone(room)
		k, e := kind.Of(room[:len(words)])
		if !slices.Equal(room, kept) {
			t.Errorf("%q: written into", s)
		}
		clear(room)
		kind.Of([]string{"char"})
		if again, e2 := kind.Of(words); again != k || e2 != e {
			t.Errorf("%q: %d, %d; then %d, %d", s, k, e, again, e2)
		}
	}
}

// R5: very many words, and a very long one.
func TestGreat(t *testing.T) {
	const many = 1 << 20
	for _, w := range append([]string{"x"}, sayings...) {
		wantOf(t, slices.Repeat([]string{w}, many), 0)
		wantOf(t, []string{strings.Repeat(w, many)}, 0)
		wantOf(t, []string{w, strings.Repeat(w+" ", many)}, 0)
	}
}

// R1: any numbers, any words.
func FuzzAny(f *testing.F) {
	for i, s := range slices.Concat(noSayings, []string{"unsigned", "int long unsigned", "long long", "long long long", "short char", "signed char", "int int"}) {
		f.Add(int64(i)<<(2*i), i-5, 12-i, s)
	}
	f.Fuzz(func(t *testing.T, v int64, a, b int, s string) {
		for _, words := range [][]string{strings.Fields(s), strings.Split(s, " "), {s}} {
			wantOf(t, words, bareOf(words))
		}
		first, isA := bareKinds[a]
		_, isB := bareKinds[b]
		if isA {
			wantBareValue(t, v, a)
		}
		size := int(first.bits / 8)
		if kind.Size(a) != size || kind.Unsigned(a) != (isA && !first.signed) || a != 0 && kind.Name(a) != first.name {
			t.Error(a, kind.Size(a), kind.Unsigned(a), kind.Name(a))
		}
		if isA && isB {
			wantUsual(t, a, b, bareUsualOf(a, b))
			return
		}
		if k, e := kind.Usual(a, b); k != 0 || e != api.ErrKind {
			t.Error(a, b, k, e)
		}
		if made, e := kind.To(v, a); !isA && (made != 0 || e != api.ErrKind || kind.Lies(v, a)) {
			t.Error(v, a, made, e)
		}
	})
}

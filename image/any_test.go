package image_test

import (
	"fmt"
	"math"
	"slices"
	"strings"
	"testing"

	"burin/api"
	"burin/image"
	"burin/shape"
)

// maker makes types, paths and sets of all sorts, the same ones each time.
type maker struct{ bits uint64 }

func (m *maker) below(n int) int {
	m.bits = m.bits*6364136223846793005 + 1442695040888963407
	return int(m.bits >> 33 % uint64(n))
}

func (m *maker) word() string { return kindWords[1+m.below(8)] }

// whole is a type's text, at most so deep; without unions, if none are wanted.
func (m *maker) whole(deep int, unions bool) string {
	choice := m.below(12)
	switch {
	case deep == 1 || choice < 3:
		return []string{"ptr", m.word(), m.word(), m.word()}[m.below(4)]
	case choice < 6:
		return m.whole(deep-1, unions) + fmt.Sprintf("*%d", 1+m.below(4))
	}
	return m.members(deep, unions)
}

func (m *maker) members(deep int, unions bool) string {
	ends := "{}"
	if unions && m.below(2) == 0 {
		ends = "()"
	}
	l := []string{m.word()} // one that is named at least
	for range m.below(5) {
		l = slices.Insert(l, m.below(len(l)+1), m.member(deep-1, unions))
	}
	s := []string{"", "", "!"}[m.below(3)] + ends[:1] + strings.Join(l, " ") + ends[1:]
	if m.below(5) == 0 {
		s += fmt.Sprintf("@%d", 1<<m.below(5))
	}
	return s
}

func (m *maker) member(deep int, unions bool) string {
	if m.below(2) == 0 {
		return m.whole(deep, unions)
	}
	word := m.word()
	size, _, _ := shape.Size(of(word))
	return []string{"", "", "", "_"}[m.below(4)] + fmt.Sprintf("%s:%d", word, m.below(8*int(size)+1))
}

// path is one that leads to a number, if there are any.
func (m *maker) path(t api.Type) []int {
	var p []int
	for {
		switch t.Shape {
		case api.SArray:
			p, t = append(p, m.below(int(t.N))), t.Of[0]
		case api.SStruct, api.SUnion:
			i := m.below(len(t.Fields))
			for t.Fields[i].Bits == 0 {
				i = m.below(len(t.Fields))
			}
			p, t = append(p, i), t.Fields[i].T
		default:
			return p
		}
	}
}

// change makes a path one that may lead to none.
func (m *maker) change(p []int) []int {
	p = slices.Clone(p)
	if len(p) > 0 && m.below(2) == 0 {
		p[m.below(len(p))] = []int{-1, 0, 1, 2, 3, 4, 5, 6, 1 << 32, math.MaxInt, math.MinInt}[m.below(11)]
		return p
	}
	return [][]int{p[:len(p)/2], append(p, 0), append(p, m.below(5), 0), nil}[m.below(4)]
}

func (m *maker) value() int64 {
	odd := []int64{0, 1, -1, -2, 127, 128, 255, 256, -32769, 1 << 31, -1 << 31, math.MaxInt64, math.MinInt64}
	if m.below(2) == 0 {
		return odd[m.below(len(odd))]
	}
	return int64(m.below(1<<31))<<33 ^ int64(m.below(1<<31))<<8 ^ int64(m.below(256))
}

func (m *maker) bytes(n int) string {
	b := make([]byte, n)
	for i := range b {
		b[i] = byte(m.below(256))
	}
	return string(b)
}

func (m *maker) sets(t api.Type, n int) []api.Set {
	var l []api.Set
	for range n {
		l = append(l, api.Set{Path: m.path(t), V: m.value()})
	}
	return l
}

// wantBare holds Spot, Get and Put of a path against the second reading.
func wantBare(t *testing.T, x api.Type, bytes string, p []int, v int64) {
	t.Helper()
	want, errno := bareSpot(x, p)
	if errno != api.OK {
		wantError(t, x, p, errno)
		return
	}
	if s, e := image.Spot(x, p); s != want || e != api.OK {
		t.Errorf("%s %v: %+v, %d; want %+v", show(x), p, s, e, want)
	}
	wantPutGot(t, x, bytes, p, v)
}

// wantBareMake does so with Make.
func wantBareMake(t *testing.T, s string, l []api.Set) {
	t.Helper()
	want, errno, place := bareMake(of(s), l)
	if b, e, i := image.Make(of(s), l); b != want || e != errno || i != place {
		t.Errorf("%s %s: %s, %d, %d; want %s, %d, %d", s, show(l), hex(b), e, i, hex(want), errno, place)
	}
}

// puts is one set put behind the other.
func puts(t *testing.T, x api.Type, l []api.Set) string {
	t.Helper()
	bytes := someBytes(x, 0)
	for _, set := range l {
		var e api.Errno
		if bytes, e = image.Put(x, bytes, set.Path, set.V); e != api.OK {
			t.Errorf("%s %v: %d", show(x), set.Path, e)
		}
	}
	return bytes
}

// P11.1 to P11.3: types of all sorts, with paths that lead to numbers and such that may not, against the second reading.
func TestAny(t *testing.T) {
	told, turned := map[api.Errno]int{}, 0
	for seed := range 3000 {
		m := maker{uint64(seed)}
		s := m.members(6, true)
		x := of(s)
		if shape.Right(x) != api.OK {
			told[api.ErrBig]++
			continue
		}
		size, _, _ := shape.Size(x)
		for range 4 {
			p := m.path(x)
			wantBare(t, x, m.bytes(int(size)), p, m.value())
			p = m.change(p)
			wantBare(t, x, m.bytes(int(size)), p, m.value())
			_, e := bareSpot(x, p)
			told[e]++
		}
		l := m.sets(x, m.below(20))
		wantBareMake(t, s, l)
		if b, _, _ := image.Make(x, l); b != puts(t, x, l) {
			turned++
		}
		for i := range l {
			if m.below(8) == 0 {
				l[i].Path = m.change(l[i].Path)
			}
		}
		wantBareMake(t, s, l)
	}
	if told[api.OK] < 500 || told[api.ErrPath] < 500 || turned < 500 || told[api.ErrBig] > 500 {
		t.Errorf("told %v, unions turned in %d", told, turned)
	}
}

// paths are all of a type, in order.
func paths(t api.Type) [][]int {
	if t.Shape == api.SInt || t.Shape == api.SPtr {
		return [][]int{nil}
	}
	var l [][]int
	for i, part := range bareParts(t) {
		if part.bits == 0 {
			continue
		}
		for _, p := range paths(part.t) {
			l = append(l, append([]int{i}, p...))
		}
	}
	return l
}

// P11.1: all paths of a type, in order, lead to its Leaves.
func TestLeaves(t *testing.T) {
	seen := 0
	for seed := range 1000 {
		m := maker{uint64(seed)}
		x := of(m.whole(6, true))
		leaves, e := shape.Leaves(x)
		if e != api.OK || len(leaves) > 300 {
			continue
		}
		for i, p := range paths(x) {
			if s, e := image.Spot(x, p); e != api.OK || s != leaves[i] {
				t.Errorf("%s %v: %+v, %d; want %+v", show(x), p, s, e, leaves[i])
			}
			seen++
		}
	}
	if seen < 5000 {
		t.Error(seen)
	}
}

// P11.4: numbers elsewhere, that share no bit, stay; without unions Make is Put, and the last set of a path counts.
func TestFollows(t *testing.T) {
	for seed := range 400 {
		m := maker{uint64(seed)}
		x := of(m.whole(5, seed%2 == 0))
		leaves, e := shape.Leaves(x)
		if e != api.OK || len(leaves) > 100 {
			continue
		}
		all := paths(x)
		before := m.bytes(len(someBytes(x, 0)))
		i := m.below(len(all))
		after, _ := image.Put(x, before, all[i], m.value())
		for k, s := range leaves {
			apart := s.Bit+s.Bits <= leaves[i].Bit || leaves[i].Bit+leaves[i].Bits <= s.Bit
			was, _ := image.Get(x, before, all[k])
			is, _ := image.Get(x, after, all[k])
			if apart && was != is {
				t.Errorf("%s: %v is put, and %v was %d, and is %d", show(x), all[i], all[k], was, is)
			}
		}
		if seed%2 == 1 {
			wantLastCounts(t, x, m.sets(x, m.below(40)))
		}
	}
}

func wantLastCounts(t *testing.T, x api.Type, l []api.Set) {
	t.Helper()
	whole, e, _ := image.Make(x, l)
	if e != api.OK || whole != puts(t, x, l) {
		t.Errorf("%s %s: %s, %d; put %s", show(x), show(l), hex(whole), e, hex(puts(t, x, l)))
	}
	var lasts []api.Set
	for _, set := range slices.Backward(l) {
		same := func(other api.Set) bool { return slices.Equal(other.Path, set.Path) }
		if !slices.ContainsFunc(lasts, same) {
			lasts = append(lasts, set)
		}
	}
	if again, _, _ := image.Make(x, lasts); again != whole {
		t.Errorf("%s %s: %s; with the last sets alone %s", show(x), show(l), hex(whole), hex(again))
	}
}

// R3, R4: what is handed in is as it was, its spare room too, and is not kept.
func TestMemory(t *testing.T) {
	for seed := range 200 {
		m := maker{uint64(seed)}
		s := m.members(5, true)
		x, kept := of(s), of(s)
		if shape.Right(x) != api.OK {
			continue
		}
		l := m.sets(x, 9)
		room := slices.Clone(l)
		for i := range room {
			room[i].Path = append(slices.Clone(l[i].Path), 77, 78)[:len(l[i].Path)]
		}
		first, e, _ := image.Make(x, room[:7])
		p := room[3].Path
		got, e2 := image.Get(x, first, p)
		put, e3 := image.Put(x, first, p, 5)
		spot, e4 := image.Spot(x, p)
		for i := range room {
			if full := room[i].Path[:len(l[i].Path)+2]; !slices.Equal(full, append(slices.Clone(l[i].Path), 77, 78)) || room[i].V != l[i].V {
				t.Errorf("%s: %v is now %v", s, l[i], full)
			}
			clear(room[i].Path)
		}
		if !shape.Same(x, kept) {
			t.Errorf("%s: written into", s)
		}
		clear(x.Fields)
		p = l[3].Path
		again, f, _ := image.Make(kept, l[:7])
		gotAgain, f2 := image.Get(kept, first, p)
		putAgain, f3 := image.Put(kept, first, p, 5)
		spotAgain, f4 := image.Spot(kept, p)
		if again != first || gotAgain != got || putAgain != put || spotAgain != spot || e != f || e2 != f2 || e3 != f3 || e4 != f4 {
			t.Errorf("%s: %s, %d, %s, %v; then %s, %d, %s, %v", s, hex(first), got, hex(put), spot, hex(again), gotAgain, hex(putAgain), spotAgain)
		}
	}
}

// R1, R5: very many sets, of a type with very many members; long paths; deep types.
func TestGreat(t *testing.T) {
	bush := "uchar"
	for range 3 {
		bush = "{" + strings.Repeat(bush+" ", 40) + "}"
	}
	x := of(bush)
	var l []api.Set
	var want []byte
	for i := range 64000 {
		l = append(l, set(int64(i), i/1600, i/40%40, i%40))
		want = append(want, byte(i))
	}
	if b, e, _ := image.Make(x, append(slices.Clone(l), l...)); b != string(want) || e != api.OK {
		t.Errorf("%s, %d", show(hex(b)), e)
	}
	wantMakeError(t, x, append(l, set(0, 40)), api.ErrPath, len(l))
	many := make([]api.Set, 1<<20)
	for i := range many {
		many[i] = set(-1, i%4096, i/4096%2)
	}
	many = append(many, set(1, 4095, 0))
	flat := of("(int char)*4096")
	if b, e, _ := image.Make(flat, many); b != strings.Repeat("\xff\x00\x00\x00", 4095)+"\x01\x00\x00\x00" || e != api.OK {
		t.Errorf("%s, %d", show(hex(b)), e)
	}
	wantError(t, flat, make([]int, 1<<24), api.ErrPath)
	deep := of("int")
	for range 1 << 15 {
		deep = api.Type{Shape: api.SArray, N: 1, Of: []api.Type{deep}}
	}
	wantError(t, deep, make([]int, 1<<15), api.ErrShape)
}

// R1: any numbers.
func FuzzAny(f *testing.F) {
	for i, n := range append(stepsBeside(3), 0, 1, 2, 5) {
		f.Add(uint64(i), n, i, int64(n), i, "\x00\xff\x00\xff")
		f.Add(uint64(n), i, n, int64(i), n, "")
	}
	f.Fuzz(func(t *testing.T, seed uint64, step, other int, v int64, shapeOf int, bytes string) {
		m := maker{seed}
		s := m.members(5, true)
		x := of(s)
		if shape.Right(x) != api.OK {
			return
		}
		l := m.sets(x, 8)
		l[m.below(len(l))] = set(v, step)
		l[m.below(len(l))] = set(v, step, other)
		wantBareMake(t, s, l)
		for _, set := range l {
			wantBare(t, x, someBytes(x, byte(v)), set.Path, v)
		}
		image.Get(x, bytes, path(step, other))
		image.Put(x, bytes, path(step, other), v)
		wild := api.Type{Shape: shapeOf, K: step, N: v, Of: []api.Type{x}, Align: int64(other)}
		wantBare(t, wild, someBytes(wild, 3), path(step, other), v)
		wild = api.Type{Shape: api.SArray, N: int64(shapeOf), Of: []api.Type{x}}
		wantBare(t, wild, someBytes(wild, 3), path(step, other), v)
	})
}

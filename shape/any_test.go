package shape_test

import (
	"fmt"
	"math"
	"slices"
	"testing"

	"burin/api"
	"burin/shape"
)

// maker makes types of all sorts, the same ones each time.
type maker struct{ bits uint64 }

func (m *maker) below(n int) int {
	m.bits = m.bits*6364136223846793005 + 1442695040888963407
	return int(m.bits >> 33 % uint64(n))
}

func (m *maker) kind() int { return kinds[m.below(len(kinds))] }

// whole is a right type that is at most so deep.
func (m *maker) whole(deep int) api.Type {
	choice := m.below(12)
	switch {
	case choice < 4 || deep == 1 && choice < 9:
		return integer(m.kind())
	case choice == 4 || deep == 1:
		return pointer()
	case choice < 7:
		return array(int64(1+m.below(5)), m.whole(deep-1))
	}
	return m.members(deep)
}

func (m *maker) members(deep int) api.Type {
	t := api.Type{Shape: api.SStruct, Packed: m.below(3) == 0}
	if m.below(4) == 0 {
		t.Shape = api.SUnion
	}
	if m.below(3) == 0 {
		t.Align = 1 << m.below(7)
	}
	for i := range 1 + m.below(7) {
		t.Fields = append(t.Fields, m.field(string(rune('a'+i)), deep-1))
	}
	if !slices.ContainsFunc(t.Fields, func(f api.Field) bool { return f.Name != "" }) {
		t.Fields = append(t.Fields, field("z", integer(m.kind())))
	}
	return t
}

func (m *maker) field(name string, deep int) api.Field {
	if m.below(2) == 0 {
		return field(name, m.whole(deep))
	}
	k := m.kind()
	f := bitField(name, k, m.below(bareBits[k]+1))
	if f.Bits == 0 || m.below(4) == 0 {
		f.Name = ""
	}
	return f
}

// copied is a type that shares no memory.
func copied(t api.Type) api.Type {
	t.Of, t.Fields = slices.Clone(t.Of), slices.Clone(t.Fields)
	for i := range t.Of {
		t.Of[i] = copied(t.Of[i])
	}
	for i := range t.Fields {
		t.Fields[i].T = copied(t.Fields[i].T)
	}
	return t
}

// parts are a type and all within it, to be changed.
func parts(t *api.Type) []*api.Type {
	l := []*api.Type{t}
	for i := range t.Of {
		l = append(l, parts(&t.Of[i])...)
	}
	for i := range t.Fields {
		l = append(l, parts(&t.Fields[i].T)...)
	}
	return l
}

var oddNumbers = []int{0, 1, 2, 3, 4, 5, 6, 7, 8, 9, 16, 17, 32, 33, 40, 64, 65, 100, 2001, 65536, 65537, 1 << 32, 1<<32 + 1, math.MaxInt, -1, -2, -8, math.MinInt}

// change makes one thing of a type another one, or leaves it as it is.
func (m *maker) change(t *api.Type) {
	l := parts(t)
	p := l[m.below(len(l))]
	odd := oddNumbers[m.below(len(oddNumbers))]
	switch m.below(9) {
	case 0:
		p.Shape = odd
	case 1:
		p.K = odd
	case 2:
		p.N = int64(odd)
	case 3:
		p.Align = int64(odd)
	case 4:
		p.Packed = !p.Packed
	case 5:
		p.Of = append(p.Of, m.whole(3))
	case 6:
		p.Fields = append(p.Fields, m.field("y", 3))
	default:
		if len(p.Fields) > 0 {
			m.changeField(p, odd)
		}
	}
}

func (m *maker) changeField(p *api.Type, odd int) {
	i := m.below(len(p.Fields))
	switch m.below(5) {
	case 0:
		p.Fields[i].Bits = odd
	case 1:
		p.Fields[i].Name = ""
	case 2:
		p.Fields[i].Name = p.Fields[m.below(len(p.Fields))].Name
	case 3:
		p.Fields[i].T = m.whole(4)
	default:
		p.Fields = slices.Delete(p.Fields, i, i+1)
	}
}

// grow makes arrays longer, so that some types are too big, and some just not.
func (m *maker) grow(t *api.Type) {
	for _, p := range parts(t) {
		if p.Shape == api.SArray && p.N > 0 {
			p.N = int64(1 + m.below(1<<m.below(17)))
		}
	}
}

// alike is Same, read once more: what is shown of both is the same text, in which nil and empty lists are one.
func alike(a, b api.Type) bool { return fmt.Sprintf("%+v", a) == fmt.Sprintf("%+v", b) }

func wantSame(t *testing.T, a, b api.Type, want bool) {
	t.Helper()
	if shape.Same(a, b) != want || shape.Same(b, a) != want {
		t.Errorf("%s and %s: %t, %t", show(a), show(b), shape.Same(a, b), shape.Same(b, a))
	}
	if !shape.Same(a, a) || !shape.Same(b, copied(b)) {
		t.Errorf("%s or %s is not itself", show(a), show(b))
	}
}

// P10.1 to P10.4: types of all sorts against the second reading, and what one change makes of them.
func TestAny(t *testing.T) {
	told := map[api.Errno]int{}
	for seed := range 6000 {
		m := maker{uint64(seed)}
		of := m.whole(6)
		if seed%2 == 0 {
			of = m.members(6)
		}
		wantBare(t, of)
		wantSame(t, of, copied(of), true)
		changed := copied(of)
		for range 1 + m.below(2) {
			m.change(&changed)
			wantSame(t, of, changed, alike(of, changed))
		}
		wantBare(t, changed)
		told[bareErrno(changed)]++
		grown := copied(of)
		m.grow(&grown)
		wantBare(t, grown)
		told[bareErrno(grown)]++
	}
	for _, e := range []api.Errno{api.OK, api.ErrShape, api.ErrBig} {
		if told[e] < 50 {
			t.Errorf("%d is told %d times", e, told[e])
		}
	}
}

// P10.1: types that are alike, right or not, and those that differ in one thing.
func TestSame(t *testing.T) {
	base := api.Type{Shape: 3, K: 5, N: 7, Of: []api.Type{integer(1), pointer()}, Fields: fields("int char:5 _long:3"), Packed: true, Align: 9}
	wantSame(t, base, copied(base), true)
	wantSame(t, api.Type{}, api.Type{Of: []api.Type{}, Fields: []api.Field{}}, true)
	for i, do := range []func(*api.Type){
		func(x *api.Type) { x.Shape = 4 }, func(x *api.Type) { x.K = 6 }, func(x *api.Type) { x.N = -7 }, func(x *api.Type) { x.Packed = false }, func(x *api.Type) { x.Align = 8 },
		func(x *api.Type) { x.Of = nil }, func(x *api.Type) { x.Of = x.Of[:1] }, func(x *api.Type) { x.Of[1].K = 1 }, func(x *api.Type) { x.Of[0], x.Of[1] = x.Of[1], x.Of[0] },
		func(x *api.Type) { x.Fields = nil }, func(x *api.Type) { x.Fields = x.Fields[:2] }, func(x *api.Type) { x.Fields[0].Name = "" }, func(x *api.Type) { x.Fields[2].Name = "m2" },
		func(x *api.Type) { x.Fields[0].Bits = -2 }, func(x *api.Type) { x.Fields[1].Bits = 6 }, func(x *api.Type) { x.Fields[2].T.K = api.KULong },
		func(x *api.Type) { x.Fields[0], x.Fields[1] = x.Fields[1], x.Fields[0] }, func(x *api.Type) { x.Fields[0].T.Of = []api.Type{{}} }, func(x *api.Type) { x.Fields[0].T.Fields = []api.Field{{}} },
	} {
		other := copied(base)
		do(&other)
		wantSame(t, base, other, false)
		if shape.Same(array(1, base), array(1, other)) || shape.Same(structOf(field("a", base)), structOf(field("a", other))) {
			t.Errorf("%d: alike within others", i)
		}
	}
	for i, a := range wraps {
		for k, b := range wraps {
			wantSame(t, deeper(base, 20, a), deeper(base, 20, b), i == k)
		}
	}
}

// R3, R4: what is handed in is as it was, its spare room too, and is not kept; what is answered is new.
func TestMemory(t *testing.T) {
	for seed := range 200 {
		m := maker{uint64(seed)}
		of := m.members(5)
		if seed%3 == 0 {
			m.change(&of)
		}
		room := append(slices.Clone(of.Fields), many(5, field("spare", pointer()))...)
		n := len(of.Fields)
		of.Fields = room[:n]
		kept, keptRoom := copied(of), copied(api.Type{Fields: room})
		first, e := shape.Members(of)
		leaves, e2 := shape.Leaves(of)
		shape.Same(of, kept)
		shape.Size(of)
		if !alike(of, kept) || !alike(api.Type{Fields: room}, keptRoom) {
			t.Errorf("%s: written into", show(kept))
		}
		told, toldLeaves := slices.Clone(first), slices.Clone(leaves)
		clear(room)
		clear(first[:cap(first)])
		clear(leaves[:cap(leaves)])
		again, e3 := shape.Members(kept)
		leavesAgain, e4 := shape.Leaves(kept)
		if !slices.Equal(again, told) || !slices.Equal(leavesAgain, toldLeaves) || e3 != e || e4 != e2 {
			t.Errorf("%s: %s, %d, %s, %d; then %s, %d, %s, %d", show(kept), show(told), e, show(toldLeaves), e2, show(again), e3, show(leavesAgain), e4)
		}
	}
}

// R1, R5: very many types, beside one another and within.
func TestGreat(t *testing.T) {
	const nested = 1 << 16
	for _, wrap := range wraps {
		deep := deeper(integer(api.KInt), nested-1, wrap)
		wantError(t, deep, api.ErrShape)
		if !shape.Same(deep, copied(deep)) || shape.Same(deep, deeper(integer(api.KChar), nested-1, wrap)) {
			t.Error("of deep types those that are alike are not told")
		}
	}
	wide := api.Type{Shape: api.SArray, N: 1, Of: slices.Repeat([]api.Type{pointer()}, 1<<20)}
	wantError(t, wide, api.ErrShape)
	wantSame(t, wide, api.Type{Shape: api.SArray, N: 1, Of: wide.Of[1:]}, false)
	wantError(t, structOf(slices.Repeat([]api.Field{field("a", pointer())}, 1<<20)...), api.ErrShape)
	bush := func(inner api.Type, of func(...api.Field) api.Type) api.Type {
		for range 3 {
			inner = of(many(40, field("m", inner))...)
		}
		return inner
	}
	wantSize(t, bush(integer(api.KChar), structOf), 64000, 1)
	wantLeavesError(t, bush(integer(api.KChar), structOf))
	wantError(t, bush(integer(api.KShort), structOf), api.ErrBig)
	wantSize(t, bush(structs("short char"), unionOf), 4, 2)
	wantLeavesError(t, bush(structs("short char"), unionOf))
	wantError(t, bush(integer(0), unionOf), api.ErrShape)
}

// R1: any numbers, any names.
func FuzzAny(f *testing.F) {
	for i, n := range oddNumbers {
		f.Add(uint64(i), n, int64(n), n, "a", "b")
		f.Add(uint64(n), 1+i%5, int64(i), i%9, "a", "")
	}
	f.Fuzz(func(t *testing.T, seed uint64, shapeOf int, n int64, bits int, name, other string) {
		m := maker{seed}
		of := m.whole(6)
		for range m.below(4) {
			m.change(&of)
		}
		wantBare(t, of)
		wantBare(t, api.Type{Shape: shapeOf, K: bits, N: n, Align: n})
		wantBare(t, array(n, of))
		wantBare(t, aligned(n, structOf(field(name, of), bitField(other, m.kind(), bits))))
		wantSame(t, of, array(n, of), false)
	})
}

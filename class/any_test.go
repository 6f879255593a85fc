package class_test

import (
	"fmt"
	"math"
	"slices"
	"testing"

	"burin/api"
	"burin/class"
	"burin/shape"
)

// maker makes types and arguments of all sorts, the same ones each time.
type maker struct{ seed uint64 }

func (m *maker) below(n int) int {
	m.seed = m.seed*6364136223846793005 + 1442695040888963407
	return int(m.seed >> 33 % uint64(n))
}

// whole is a right type, at most so deep.
func (m *maker) whole(deep int) api.Type {
	switch choice := m.below(10); {
	case deep == 1 || choice < 3:
		return []api.Type{pointer, number(1 + m.below(8)), number(1 + m.below(8)), char}[m.below(4)]
	case choice < 4:
		return array(int64(1+m.below(5)), m.whole(deep-1))
	}
	return m.members(deep)
}

// members is a struct or a union, so small most times that it may lie in registers.
func (m *maker) members(deep int) api.Type {
	l := []any{m.whole(deep - 1)}
	for range m.below(4) {
		l = slices.Insert(l, m.below(len(l)+1), m.member(deep-1))
	}
	t := structs(l...)
	if m.below(4) == 0 {
		t = unions(l...)
	}
	t.Packed = m.below(3) == 0
	if m.below(3) == 0 {
		t.Align = 1 << m.below(7)
	}
	return t
}

func (m *maker) member(deep int) any {
	if m.below(2) == 0 {
		return m.whole(deep)
	}
	k := 1 + m.below(8)
	return bits{k, m.below(int(bareBits[k]) + 1), m.below(4) == 0}
}

// argument is a type that is handed over, but for some that are not.
func (m *maker) argument(errors bool) api.Type {
	if errors && m.below(12) == 0 {
		wrong := slices.Concat(noRightTypes(), tooBigTypes(), []api.Type{array(1, m.whole(3)), array(2001, char), structs(array(2001, char)), crowd(2001)})
		return wrong[m.below(len(wrong))]
	}
	if m.below(3) == 0 {
		return []api.Type{char, integer, long, pointer}[m.below(4)]
	}
	return m.members(3 + m.below(2))
}

func (m *maker) arguments(errors bool) ([]api.Type, api.Type) {
	most := 17
	if errors {
		most = 19
	}
	l := make([]api.Type, m.below(most))
	for i := range l {
		l[i] = m.argument(errors)
	}
	if m.below(3) == 0 {
		return l, nothing
	}
	return l, m.argument(errors)
}

// copied is a type that shares no memory.
func copied(t api.Type) api.Type {
	t.Of, t.Fields = slices.Clone(t.Of), slices.Clone(t.Fields)
	for i := range t.Of {
		t.Of[i] = copied(t.Of[i])
	}
	for i := range t.Fields {
		t.Fields[i].T = copied(t.Fields[i].T)
	}
	return t
}

// wantBareClasses holds Classes against the second reading.
func wantBareClasses(t *testing.T, of api.Type) {
	t.Helper()
	want, errno := bareClasses(of)
	if l, e := class.Classes(of); !slices.Equal(l, want) || e != errno {
		t.Errorf("%s: %v, %d; want %v, %d", show(of), l, e, want, errno)
	}
}

// wantBarePass does so with Pass.
func wantBarePass(t *testing.T, args []api.Type, ret api.Type) {
	t.Helper()
	want, bytes, errno := barePass(args, ret)
	if errno != api.OK {
		wantPassError(t, args, ret, errno)
		return
	}
	l, n, e := class.Pass(args, ret)
	if !slices.Equal(l, want) || n != bytes || e != api.OK {
		t.Errorf("%s; back %s:\n%s, %d, %d; want\n%s, %d", show(args), show(ret), show(places(l)), n, e, show(places(want)), bytes)
	}
	wantFollows(t, l, n)
}

// P12.1: types of all sorts against the second reading; the first eight of each one that may lie in registers has a number's bit.
func TestAnyClasses(t *testing.T) {
	told := map[string]int{}
	for seed := range 30000 {
		m := maker{uint64(seed)}
		of := m.argument(true)
		wantBareClasses(t, of)
		l, e := class.Classes(of)
		size, _, _ := shape.Size(of)
		word := letters(l)
		switch {
		case e != api.OK:
			word = fmt.Sprint(e)
		case word == "M" && size <= 16:
			word = "M, askew"
		}
		told[word]++
	}
	for _, word := range []string{"I", "II", "IN", "M", "M, askew", "100", "101", "2"} {
		if told[word] < 100 {
			t.Errorf("%s is told %d times", word, told[word])
		}
		delete(told, word)
	}
	if len(told) > 0 {
		t.Errorf("told %v", told)
	}
}

// P12.2, P12.3: arguments of all sorts against the second reading.
func TestAnyPass(t *testing.T) {
	told := map[api.Errno]int{}
	left := 0
	for seed := range 20000 {
		m := maker{uint64(seed)}
		args, ret := m.arguments(seed%2 == 0)
		wantBarePass(t, args, ret)
		l, _, e := class.Pass(args, ret)
		told[e]++
		stacked := false
		for _, x := range l {
			if stacked && x.Reg >= 0 {
				left++
				break
			}
			stacked = x.Reg < 0
		}
	}
	if told[api.OK] < 5000 || told[api.ErrShape] < 500 || told[api.ErrBig] < 500 || told[api.ErrArg] < 500 || left < 2000 {
		t.Errorf("told %v, registers left to those behind %d times", told, left)
	}
}

// P12.2: each count of registers that are taken, with all short lists of arguments behind.
func TestEveryShortList(t *testing.T) {
	some := []api.Type{char, structs(long, long), aligned(16, structs(integer)), packed(structs(char, short)), aligned(32, structs(char))}
	var lists [][]api.Type
	lists = append(lists, nil)
	for begin, end := 0, 1; end < 700; begin, end = end, len(lists) {
		for _, l := range lists[begin:end] {
			for _, x := range some {
				lists = append(lists, append(slices.Clone(l), x))
			}
		}
	}
	for taken := range 8 {
		for _, l := range lists {
			args := append(slices.Repeat([]api.Type{pointer}, taken), l...)
			wantBarePass(t, args, nothing)
			wantBarePass(t, args, structs(long, long, long))
		}
	}
}

// R3, R4: what is handed in is as it was, its spare room too, and is not kept; what is answered is new.
func TestMemory(t *testing.T) {
	for seed := range 300 {
		m := maker{uint64(seed)}
		args, ret := m.arguments(seed%3 == 0)
		ret = copied(ret)
		spare := api.Type{Shape: 77}
		room := append(slices.Clone(args), spare, spare)
		kept, keptRet := make([]api.Type, len(args)), copied(ret)
		for i := range args {
			kept[i] = copied(args[i])
			room[i] = copied(args[i])
		}
		of := integer
		if len(args) > 0 {
			of = kept[0]
		}
		l, n, e := class.Pass(room[:len(args)], ret)
		classes, e2 := class.Classes(of)
		if !slices.EqualFunc(room, append(slices.Clone(kept), spare, spare), shape.Same) || !shape.Same(ret, keptRet) {
			t.Errorf("%s: written into", show(kept))
		}
		told, toldClasses := slices.Clone(l), slices.Clone(classes)
		clear(room)
		clear(ret.Fields)
		clear(l[:cap(l)])
		clear(classes[:cap(classes)])
		again, n3, e3 := class.Pass(kept, keptRet)
		classesAgain, e4 := class.Classes(of)
		if !slices.Equal(again, told) || n3 != n || e3 != e || !slices.Equal(classesAgain, toldClasses) || e4 != e2 {
			t.Errorf("%s: %s, %d, %d; then %s, %d, %d; %v, %d; then %v, %d", show(kept), places(told), n, e, places(again), n3, e3, toldClasses, e2, classesAgain, e4)
		}
	}
}

// R1, R5: very great arguments, and very deep ones.
func TestGreat(t *testing.T) {
	great := structs(array(1024, aligned(64, structs(char))))
	l, n, e := class.Pass(slices.Repeat([]api.Type{great}, 16), great)
	if len(l) != 1+16*8192 || n != 16*65536 || e != api.OK {
		t.Errorf("%d places, %d bytes, %d", len(l), n, e)
	}
	wantFollows(t, l, n)
	deep := integer
	for i := range 1 << 16 {
		if i%2 == 0 {
			deep = structs(deep)
		} else {
			deep = array(1, deep)
		}
	}
	wantError(t, deep, api.ErrShape)
	wantError(t, structs(slices.Repeat([]any{char}, 1<<20)...), api.ErrShape)
	wantError(t, api.Type{Shape: api.SArray, N: 1, Of: slices.Repeat([]api.Type{char}, 1<<20)}, api.ErrShape)
}

// R1: any numbers.
func FuzzAny(f *testing.F) {
	for i, n := range []int{0, 1, -1, 5, 16, 17, 255, 65536, 1 << 32, math.MaxInt, math.MinInt} {
		f.Add(uint64(i), n, i, int64(n), 1+i%5)
		f.Add(uint64(n), i, n, int64(i), n)
	}
	f.Fuzz(func(t *testing.T, seed uint64, k, count int, n int64, shapeOf int) {
		m := maker{seed}
		args, ret := m.arguments(m.below(2) == 0)
		wild := []api.Type{
			{Shape: shapeOf, K: k, N: n, Align: int64(count)}, array(n, m.whole(4)), structs(array(n, char)), aligned(n, packed(structs(bits{k, count, false}))), structs(bits{k, count, true}, m.whole(3)),
		}
		for _, x := range wild {
			wantBareClasses(t, x)
			wantBarePass(t, args, x)
			wantBarePass(t, append(slices.Clone(args), x, char), ret)
		}
	})
}

package class_test

import (
	"fmt"
	"math"
	"slices"
	"strconv"
	"strings"
	"testing"

	"burin/api"
	"burin/class"
	"burin/shape"
)

var (
	char    = number(api.KChar)
	short   = number(api.KShort)
	integer = number(api.KInt)
	long    = number(api.KLong)
	pointer = api.Type{Shape: api.SPtr}
	nothing = api.Type{}
)

func number(k int) api.Type { return api.Type{Shape: api.SInt, K: k} }

func array(n int64, of api.Type) api.Type {
	return api.Type{Shape: api.SArray, N: n, Of: []api.Type{of}}
}

// structs and unions are of types, and of bit-fields; what has no name gets one of its own, as far as it may have one.
func structs(l ...any) api.Type { return api.Type{Shape: api.SStruct, Fields: members(l)} }

func unions(l ...any) api.Type { return api.Type{Shape: api.SUnion, Fields: members(l)} }

func members(l []any) []api.Field {
	var fields []api.Field
	for i, x := range l {
		f := api.Field{Name: "m" + strconv.Itoa(i), Bits: -1}
		switch x := x.(type) {
		case api.Type:
			f.T = x
		case bits:
			f.T, f.Bits = number(x.kind), x.count
			if x.nameless || x.count == 0 {
				f.Name = ""
			}
		}
		fields = append(fields, f)
	}
	return fields
}

// bits are a bit-field.
type bits struct {
	kind     int
	count    int
	nameless bool
}

func field(kind, count int) bits { return bits{kind, count, false} }

func packed(t api.Type) api.Type {
	t.Packed = true
	return t
}

func aligned(n int64, t api.Type) api.Type {
	t.Align = n
	return t
}

// show keeps a failure of a great thing readable.
func show(x any) string { return fmt.Sprintf("%.500s", fmt.Sprintf("%+v", x)) }

// letters are classes, a letter each.
func letters(l []int) string {
	s := ""
	for _, class := range l {
		s += map[int]string{api.CNone: "N", api.CInteger: "I", api.CMemory: "M"}[class]
	}
	return s
}

// places are where all lies, as tests write it: 2.1 rdx is the second eight of the argument 2 in a register, 2.1 @8 on the stack.
func places(l []api.Loc) string {
	var words []string
	for _, x := range l {
		where := fmt.Sprintf("%+v", x)
		switch {
		case x.Reg >= 0 && x.Reg < 6 && x.Off == 0:
			where = []string{"rdi", "rsi", "rdx", "rcx", "r8", "r9"}[x.Reg]
		case x.Reg == -1:
			where = fmt.Sprintf("@%d", x.Off)
		}
		words = append(words, fmt.Sprintf("%d.%d %s", x.Arg, x.Eight, where))
	}
	return strings.Join(words, ", ")
}

func wantClasses(t *testing.T, of api.Type, want string) {
	t.Helper()
	if l, e := class.Classes(of); letters(l) != want || e != api.OK {
		t.Errorf("%s: %v, %d; want %s", show(of), l, e, want)
	}
}

func wantPass(t *testing.T, ret api.Type, want string, bytes int64, args ...api.Type) {
	t.Helper()
	l, n, e := class.Pass(args, ret)
	if places(l) != want || n != bytes || e != api.OK {
		t.Errorf("%s; back %s:\n%s, %d, %d; want\n%s, %d", show(args), show(ret), show(places(l)), n, e, show(want), bytes)
	}
	wantFollows(t, l, n)
}

// wantFollows looks at P12.3.
func wantFollows(t *testing.T, l []api.Loc, bytes int64) {
	t.Helper()
	registers, end := 0, int64(0)
	for i, x := range l {
		if i > 0 && (x.Arg < l[i-1].Arg || x.Arg == l[i-1].Arg && x.Eight <= l[i-1].Eight) {
			t.Errorf("%+v lies behind %+v", x, l[i-1])
		}
		switch {
		case x.Reg >= 0:
			if x.Reg != registers || x.Off != 0 {
				t.Errorf("%+v, and %d registers are taken", x, registers)
			}
			registers++
		case x.Reg != -1 || x.Off < end || x.Off%8 != 0:
			t.Errorf("%+v, and the stack is taken up to %d", x, end)
		default:
			end = x.Off + 8
		}
	}
	if registers > 6 || bytes < end || bytes%16 != 0 {
		t.Errorf("%d registers, and a stack of %d bytes, that is taken up to %d", registers, bytes, end)
	}
}

func wantPassError(t *testing.T, args []api.Type, ret api.Type, errno api.Errno) {
	t.Helper()
	if l, n, e := class.Pass(args, ret); len(l) != 0 || n != 0 || e != errno {
		t.Errorf("%s; back %s: %s, %d, %d; want %d", show(args), show(ret), show(places(l)), n, e, errno)
	}
}

// wantError looks at a type alone, as an argument, and as what comes back.
func wantError(t *testing.T, of api.Type, errno api.Errno) {
	t.Helper()
	if l, e := class.Classes(of); len(l) != 0 || e != errno {
		t.Errorf("%s: %v, %d; want %d", show(of), l, e, errno)
	}
	wantPassError(t, []api.Type{of}, nothing, errno)
	wantPassError(t, slices.Repeat([]api.Type{of}, 16), of, errno)
	wantPassError(t, []api.Type{integer, structs(long, long, long), of}, long, errno)
	if !shape.Same(of, nothing) {
		wantPassError(t, nil, of, errno)
		wantPassError(t, slices.Repeat([]api.Type{integer}, 16), of, errno)
	}
}

// The chapter's examples, and that of the whole.
func TestExamples(t *testing.T) {
	two, three := structs(long, long), structs(long, long, long)
	wantPass(t, nothing, "0.0 rdi, 1.0 rsi, 1.1 rdx, 2.0 rcx", 0, integer, two, char)
	wantPass(t, nothing, "0.0 @0, 0.1 @8, 0.2 @16, 1.0 rdi", 32, three, integer)
	wantPass(t, nothing, "0.0 rdi, 1.0 rsi, 2.0 rdx, 3.0 rcx, 4.0 r8, 5.0 @0, 5.1 @8, 6.0 r9", 16, integer, integer, integer, integer, integer, two, integer)
	wantPass(t, three, "-1.0 rdi, 0.0 rsi", 0, integer)
}

// P12.1: numbers, pointers, and types of each size up to where they are in memory.
func TestSizes(t *testing.T) {
	for k := api.KChar; k <= api.KULong; k++ {
		wantClasses(t, number(k), "I")
		wantClasses(t, structs(number(k)), "I")
		wantClasses(t, unions(number(k), char), "I")
	}
	wantClasses(t, pointer, "I")
	wantClasses(t, structs(pointer), "I")
	wantClasses(t, structs(char, pointer), "II")
	wantClasses(t, structs(pointer, pointer), "II")
	wantClasses(t, structs(pointer, pointer, char), "M")
	for n := 1; n <= 40; n++ {
		want := "I"
		switch {
		case n > 16:
			want = "M"
		case n > 8:
			want = "II"
		}
		of := array(int64(n), char)
		for _, x := range []api.Type{structs(of), unions(of, char), packed(structs(of)), structs(structs(of)), structs(array(1, unions(of)))} {
			wantClasses(t, x, want)
		}
		wantClasses(t, packed(structs(slices.Repeat([]any{char}, n)...)), want)
	}
	wantClasses(t, structs(long, long), "II")
	wantClasses(t, structs(long, long, char), "M")
	wantClasses(t, structs(integer, integer, integer), "II")
	wantClasses(t, structs(char, long), "II")
	wantClasses(t, packed(structs(long, short, char)), "II")
	wantClasses(t, structs(array(2, long)), "II")
	wantClasses(t, structs(array(17, char)), "M")
	wantClasses(t, aligned(32, structs(char)), "M")
	wantClasses(t, structs(array(1000, pointer)), "M")
}

// P12.1: eight bytes in which no number has a bit.
func TestNone(t *testing.T) {
	wantClasses(t, aligned(16, structs(char)), "IN")
	wantClasses(t, aligned(16, structs(array(8, char))), "IN")
	wantClasses(t, aligned(16, structs(array(9, char))), "II")
	wantClasses(t, aligned(16, structs(pointer)), "IN")
	wantClasses(t, aligned(16, unions(char, long)), "IN")
	wantClasses(t, aligned(16, unions(array(9, char), long)), "II")
	wantClasses(t, aligned(16, packed(structs(char, field(api.KLong, 55)))), "IN")
	wantClasses(t, aligned(16, packed(structs(char, field(api.KLong, 56)))), "IN")
	wantClasses(t, aligned(16, packed(structs(char, field(api.KLong, 57)))), "II")
	wantClasses(t, structs(aligned(16, structs(integer))), "IN")
	wantClasses(t, unions(char, aligned(16, structs(integer))), "IN")
	wantClasses(t, aligned(8, structs(char)), "I")
	wantClasses(t, aligned(16, structs(integer, field(api.KInt, 0))), "IN")
	wantClasses(t, aligned(16, structs(char, field(api.KLong, 0))), "IN")
	wantClasses(t, aligned(16, structs(long, field(api.KLong, 0), field(api.KInt, 0))), "IN")
	wantClasses(t, aligned(16, structs(char, field(api.KLong, 0), char)), "II")
	wantClasses(t, structs(char, field(api.KLong, 0), char), "II")
	wantClasses(t, aligned(16, structs(char, bits{api.KInt, 3, true})), "IN")
	wantClasses(t, aligned(16, structs(long, bits{api.KInt, 3, true})), "II")
}

// P12.1: bit-fields, some of which lie in two eights.
func TestBitFields(t *testing.T) {
	wantClasses(t, structs(field(api.KInt, 1)), "I")
	wantClasses(t, structs(field(api.KLong, 64)), "I")
	wantClasses(t, structs(field(api.KLong, 63), field(api.KLong, 1)), "I")
	wantClasses(t, structs(field(api.KLong, 63), field(api.KLong, 2)), "II")
	wantClasses(t, structs(field(api.KInt, 31), field(api.KInt, 2), field(api.KInt, 31)), "II")
	wantClasses(t, packed(structs(field(api.KInt, 31), field(api.KInt, 2), field(api.KInt, 31))), "I")
	for ahead := 1; ahead <= 63; ahead++ {
		for _, count := range []int{1, 2, 7, 31, 33, 62, 63} {
			want := "I"
			if ahead+count > 64 {
				want = "II"
			}
			wantClasses(t, packed(structs(field(api.KLong, ahead), field(api.KLong, count))), want)
			wantClasses(t, packed(structs(field(api.KULong, ahead), bits{api.KULong, count, true})), want)
		}
	}
	wantClasses(t, packed(structs(field(api.KLong, 63), field(api.KLong, 63), field(api.KShort, 2))), "II")
	wantClasses(t, packed(structs(field(api.KLong, 63), field(api.KLong, 63), field(api.KShort, 3))), "M")
}

// P12.1: numbers of all their kind's bits, at multiples of these and not, and such of fewer bits.
func TestAskew(t *testing.T) {
	wantClasses(t, packed(structs(char, short)), "M")
	wantClasses(t, packed(structs(char, char, short)), "I")
	wantClasses(t, packed(structs(short, integer)), "M")
	wantClasses(t, packed(structs(short, char, char, integer)), "I")
	wantClasses(t, packed(structs(integer, long)), "M")
	wantClasses(t, packed(structs(integer, integer, long)), "II")
	wantClasses(t, packed(structs(integer, pointer)), "M")
	wantClasses(t, packed(structs(long, pointer, char)), "M")
	wantClasses(t, packed(structs(char, structs(char, short))), "M")
	wantClasses(t, packed(structs(char, array(9, char))), "II")
	wantClasses(t, packed(structs(char, array(3, short))), "M")
	wantClasses(t, structs(array(2, packed(structs(short, char)))), "M")
	wantClasses(t, structs(array(3, packed(structs(short, char, char)))), "II")
	wantClasses(t, unions(long, packed(structs(char, integer))), "M")
	wantClasses(t, unions(packed(structs(char, short)), array(16, char)), "M")
	wantClasses(t, unions(long, packed(structs(integer, short))), "I")
	wantClasses(t, aligned(16, packed(structs(char, integer))), "M")
	for k := api.KChar; k <= api.KULong; k++ {
		full := int(bareBits[k])
		for ahead := 1; ahead <= 2*full && ahead < 64; ahead++ {
			gap := field(api.KLong, ahead)
			want := "M"
			switch {
			case ahead%full == 0 && ahead+full <= 64:
				want = "I"
			case ahead%full == 0:
				want = "II"
			}
			wantClasses(t, packed(structs(gap, field(k, full))), want)
			wantClasses(t, packed(structs(gap, bits{k, full, true})), want)
			want = "I"
			if ahead+full-1 > 64 {
				want = "II"
			}
			wantClasses(t, packed(structs(gap, field(k, full-1))), want)
		}
	}
}

// P12.1: all places at which a number may lie in a packed type.
func TestEveryPlace(t *testing.T) {
	for k := api.KChar; k <= api.KULong; k++ {
		size := int(bareBits[k] / 8)
		for ahead := 1; ahead+size <= 20; ahead++ {
			want := "I"
			switch {
			case ahead%size != 0 || ahead+size > 16:
				want = "M"
			case ahead+size > 8:
				want = "II"
			}
			wantClasses(t, packed(structs(array(int64(ahead), char), number(k))), want)
		}
	}
}

// tooDeep is 7 deep, and right else.
func tooDeep() api.Type {
	t := integer
	for range api.MaxDeep {
		t = structs(t)
	}
	return t
}

// tens are so many numbers, ten a member.
func tens(numbers int) []any {
	var l []any
	for left := numbers; left > 0; left -= 10 {
		l = append(l, array(int64(min(left, 10)), char))
	}
	return l
}

// crowd has so many numbers, 1951 at least, in 10 bytes.
func crowd(numbers int) api.Type {
	l := slices.Repeat([]any{unions(tens(50)...)}, 39)
	return unions(append(l, unions(tens(numbers-1950)...))...)
}

func noRightTypes() []api.Type {
	return []api.Type{
		number(0), number(9), number(-1), {Shape: 6}, {Shape: -1}, {Shape: 1<<32 + 1, K: api.KInt}, {K: api.KInt}, {Fields: structs(integer).Fields}, {Of: []api.Type{integer}}, {N: 1}, {Packed: true}, {Align: 8},
		array(0, integer), array(-1, integer), array(1, nothing), array(1<<40, nothing), {Shape: api.SArray, N: 1}, structs(), unions(), structs(nothing), aligned(3, structs(integer)), aligned(128, structs(integer)), aligned(8, integer), packed(pointer),
		structs(field(api.KInt, 33)), structs(field(api.KInt, 0)), structs(bits{api.KInt, 3, true}), structs(array(70000, char), number(0)), tooDeep(), array(1, tooDeep()), structs(slices.Repeat([]any{char}, 41)...),
	}
}

func tooBigTypes() []api.Type {
	return []api.Type{
		array(65537, char), array(math.MaxInt64, char), structs(array(65536, char), char), structs(array(8193, long)), unions(char, array(65537, char)), aligned(64, structs(array(65500, char), array(37, char))),
	}
}

// P12.1, P12.2: types that are not right, too big ones, arrays, and those of too many numbers.
func TestWrongTypes(t *testing.T) {
	for _, x := range noRightTypes() {
		if !shape.Same(x, nothing) {
			wantError(t, x, api.ErrShape)
		}
	}
	if l, e := class.Classes(nothing); len(l) != 0 || e != api.ErrShape {
		t.Error(l, e)
	}
	wantPassError(t, []api.Type{nothing}, nothing, api.ErrShape)
	wantPassError(t, []api.Type{integer, {Fields: []api.Field{}}}, nothing, api.ErrShape)
	for _, x := range tooBigTypes() {
		wantError(t, x, api.ErrBig)
	}
	for _, x := range []api.Type{array(1, char), array(2, long), array(1, pointer), array(3, array(2, short)), array(1, structs(char)), array(2001, char), array(65536, char), array(40, crowd(2000))} {
		wantError(t, x, api.ErrArg)
	}
	for _, x := range []api.Type{structs(array(2001, char)), structs(array(65536, char)), crowd(2001), crowd(2020), unions(array(1000, char), array(1001, char)), structs(bits{api.KInt, 1, true}, array(2000, char))} {
		wantError(t, x, api.ErrBig)
	}
}

// P12.1: as many numbers as there may be.
func TestManyNumbers(t *testing.T) {
	wantClasses(t, structs(array(2000, char)), "M")
	wantClasses(t, structs(field(api.KInt, 0), array(2000, char), field(api.KLong, 0)), "M")
	wantClasses(t, crowd(1999), "II")
	wantClasses(t, crowd(2000), "II")
}

// P12.2: more than 16 arguments, ahead of all else that is wrong.
func TestCount(t *testing.T) {
	wantPass(t, nothing, "", 0)
	wantPass(t, integer, "", 0)
	wantPass(t, structs(long, long), "", 0)
	wantPass(t, structs(long, long, long), "-1.0 rdi", 0)
	l := slices.Repeat([]api.Type{integer}, 16)
	registers := "0.0 rdi, 1.0 rsi, 2.0 rdx, 3.0 rcx, 4.0 r8, 5.0 r9"
	wantPass(t, nothing, registers, 0, l[:6]...)
	wantPass(t, nothing, registers+", 6.0 @0", 16, l[:7]...)
	wantPass(t, nothing, registers+", 6.0 @0, 7.0 @8", 16, l[:8]...)
	wantPass(t, nothing, registers+", 6.0 @0, 7.0 @8, 8.0 @16", 32, l[:9]...)
	wantPass(t, nothing, registers+", 6.0 @0, 7.0 @8, 8.0 @16, 9.0 @24, 10.0 @32, 11.0 @40, 12.0 @48, 13.0 @56, 14.0 @64, 15.0 @72", 80, l...)
	for _, n := range []int{17, 18, 32, 272, 1 << 20} {
		many := slices.Repeat([]api.Type{integer}, n)
		for _, ret := range []api.Type{nothing, integer, array(1, char), number(0), array(65537, char), structs(long, long, long)} {
			wantPassError(t, many, ret, api.ErrArg)
		}
		many[0], many[n-1] = number(0), array(65537, char)
		wantPassError(t, many, nothing, api.ErrArg)
	}
}

// P12.2: of wrong arguments among right ones, and of what comes back, the first error.
func TestWhichError(t *testing.T) {
	wrong := map[api.Errno]api.Type{api.ErrShape: number(9), api.ErrBig: structs(array(2001, char)), api.ErrArg: array(1, integer)}
	right := []api.Type{integer, structs(long, long, long), pointer, aligned(64, structs(char))}
	for e, x := range wrong {
		for f, y := range wrong {
			for at := range 16 {
				l := slices.Repeat(right, 4)
				wantPassError(t, l[:at], y, f)
				l[at] = x
				wantPassError(t, l, nothing, e)
				for behind := at + 1; behind < 16; behind++ {
					l[behind] = y
					wantPassError(t, l, y, e)
				}
			}
		}
	}
}

// P12.2: what comes back: nothing, in registers, and of CMemory.
func TestBack(t *testing.T) {
	for _, ret := range []api.Type{{}, {Of: []api.Type{}}, {Fields: []api.Field{}}, {Of: []api.Type{}, Fields: []api.Field{}}} {
		wantPass(t, ret, "0.0 rdi, 1.0 rsi", 0, integer, char)
	}
	for _, ret := range []api.Type{{K: api.KInt}, {N: 1}, {N: -1}, {Of: []api.Type{{}}}, {Fields: []api.Field{{}}}, {Packed: true}, {Align: 1}} {
		wantPassError(t, nil, ret, api.ErrShape)
		wantPassError(t, []api.Type{integer, char}, ret, api.ErrShape)
	}
	for _, ret := range []api.Type{char, pointer, structs(long, long), aligned(16, structs(char)), packed(structs(char, field(api.KInt, 31))), unions(array(16, char))} {
		wantPass(t, ret, "0.0 rdi, 1.0 rsi", 0, integer, char)
	}
	for _, ret := range []api.Type{structs(array(17, char)), structs(long, long, long), packed(structs(char, integer)), aligned(32, structs(char)), unions(long, packed(structs(char, short))), structs(array(1024, aligned(64, structs(char))))} {
		wantPass(t, ret, "-1.0 rdi", 0)
		wantPass(t, ret, "-1.0 rdi, 0.0 rsi, 1.0 rdx", 0, integer, char)
		wantPass(t, ret, "-1.0 rdi, 0.0 @0, 0.1 @8, 0.2 @16, 1.0 rsi", 32, structs(long, long, long), char)
		wantPass(t, ret, "-1.0 rdi, 0.0 rsi, 0.1 rdx, 1.0 rcx, 1.1 r8, 2.0 @0, 2.1 @8, 3.0 r9, 4.0 @16", 32, structs(long, long), structs(long, long), structs(long, long), char, char)
	}
}

// P12.2, P12.3: an argument that does not fit in the registers that are left, with smaller ones behind it.
func TestRegistersLeft(t *testing.T) {
	two, three := structs(long, long), structs(long, long, long)
	ahead := "0.0 rdi, 0.1 rsi, 1.0 rdx, 1.1 rcx, "
	wantPass(t, nothing, ahead+"2.0 r8, 2.1 r9, 3.0 @0, 3.1 @8, 4.0 @16", 32, two, two, two, two, char)
	wantPass(t, nothing, ahead+"2.0 r8, 3.0 @0, 3.1 @8, 4.0 @16, 4.1 @24, 5.0 r9, 6.0 @32, 7.0 @40, 7.1 @48", 64, two, two, char, two, two, short, pointer, two)
	wantPass(t, nothing, ahead+"2.0 @0, 2.1 @8, 2.2 @16, 3.0 r8, 3.1 r9, 4.0 @24", 32, two, two, three, two, char)
	wantPass(t, nothing, ahead+"2.0 r8, 3.0 @0, 4.0 r9, 5.0 @8", 16, two, two, char, packed(structs(char, short)), unions(char, long), char)
}

// P12.1, P12.2: an eight in which no number has a bit takes no register, but its place on the stack.
func TestNoneIsPassed(t *testing.T) {
	half := aligned(16, structs(integer))
	wantPass(t, nothing, "0.0 rdi, 1.0 rsi, 2.0 rdx, 3.0 rcx, 4.0 r8, 5.0 r9", 0, half, half, char, half, half, half)
	wantPass(t, nothing, "0.0 rdi, 0.1 rsi, 1.0 rdx, 1.1 rcx, 2.0 r8, 3.0 r9, 4.0 @0, 4.1 @8, 5.0 @16", 32, structs(long, long), structs(long, long), char, half, half, char)
}

// P12.2: what lies on the stack, by size and alignment.
func TestStack(t *testing.T) {
	bytes := func(n int64) api.Type { return structs(array(n, char)) }
	wantPass(t, nothing, "0.0 @0, 0.1 @8, 0.2 @16, 1.0 @24, 1.1 @32, 1.2 @40, 2.0 @48, 2.1 @56, 2.2 @64, 2.3 @72", 80, bytes(17), bytes(24), bytes(25))
	wantPass(t, nothing, "0.0 @0, 1.0 @8, 2.0 @16", 32, packed(structs(char, short)), packed(structs(char, integer)), packed(structs(char, short)))
	wantPass(t, nothing, "0.0 @0, 0.1 @8, 0.2 @16, 1.0 @32, 1.1 @40, 1.2 @48, 1.3 @56, 2.0 @64", 80, bytes(17), aligned(16, bytes(17)), packed(structs(char, short)))
	wantPass(t, nothing, "0.0 @0, 1.0 @32, 1.1 @40, 1.2 @48, 1.3 @56, 2.0 @64", 80, packed(structs(char, short)), aligned(32, structs(char)), packed(structs(char, short)))
	wantPass(t, nothing, "0.0 @0, 1.0 @64, 1.1 @72, 1.2 @80, 1.3 @88, 1.4 @96, 1.5 @104, 1.6 @112, 1.7 @120, 2.0 rdi", 128, packed(structs(char, short)), aligned(64, unions(char)), char)
	wantPass(t, nothing, "0.0 @0, 1.0 @8, 2.0 @16, 2.1 @24", 32, packed(structs(char, short)), packed(structs(char, short)), aligned(16, packed(structs(char, integer))))
	wantPass(t, nothing, "0.0 @0, 0.1 @8, 0.2 @16, 1.0 @24, 1.1 @32, 1.2 @40", 48, aligned(4, bytes(17)), aligned(8, packed(structs(char, array(2, long)))))
	wantPass(t, nothing, "0.0 @0, 0.1 @8, 0.2 @16, 0.3 @24, 1.0 @32, 1.1 @40, 2.0 rdi, 2.1 rsi", 48, structs(aligned(16, bytes(1)), aligned(16, bytes(1))), aligned(16, packed(structs(char, pointer))), structs(long, long))
	six := slices.Repeat([]api.Type{char}, 6)
	registers := "0.0 rdi, 1.0 rsi, 2.0 rdx, 3.0 rcx, 4.0 r8, 5.0 r9, "
	wantPass(t, nothing, registers+"6.0 @0, 7.0 @16, 7.1 @24, 8.0 @32", 48, append(six, char, aligned(16, unions(short, pointer)), char)...)
}

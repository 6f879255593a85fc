package shape_test

import (
	"fmt"
	"math"
	"slices"
	"strconv"
	"strings"
	"testing"

	"burin/api"
	"burin/shape"
)

var kinds = []int{api.KChar, api.KUChar, api.KShort, api.KUShort, api.KInt, api.KUInt, api.KLong, api.KULong}

// noKinds are numbers that are none, some of which have a kind in their lowest bits.
var noKinds = []int{0, -1, -5, 9, 10, 255, 257, 1<<16 + 2, 1<<32 + 5, math.MaxInt32, math.MinInt32, math.MaxInt, math.MinInt}

// noShapes are numbers that are no shape, likewise.
var noShapes = []int{0, -1, -4, 6, 7, 100, 256, 257, 1<<16 + 4, 1<<32 + 1, math.MaxInt, math.MinInt}

var kindWords = map[string]int{
	"char": api.KChar, "uchar": api.KUChar, "short": api.KShort, "ushort": api.KUShort, "int": api.KInt, "uint": api.KUInt, "long": api.KLong, "ulong": api.KULong,
}

func integer(k int) api.Type { return api.Type{Shape: api.SInt, K: k} }

func pointer() api.Type { return api.Type{Shape: api.SPtr} }

func array(n int64, of api.Type) api.Type {
	return api.Type{Shape: api.SArray, N: n, Of: []api.Type{of}}
}

func structOf(l ...api.Field) api.Type { return api.Type{Shape: api.SStruct, Fields: l} }

func unionOf(l ...api.Field) api.Type { return api.Type{Shape: api.SUnion, Fields: l} }

func packed(t api.Type) api.Type {
	t.Packed = true
	return t
}

func aligned(n int64, t api.Type) api.Type {
	t.Align = n
	return t
}

func field(name string, t api.Type) api.Field { return api.Field{Name: name, T: t, Bits: -1} }

func bitField(name string, k, bits int) api.Field {
	return api.Field{Name: name, T: integer(k), Bits: bits}
}

// fields are members as words say them: a kind or ptr, a bit-field's bits behind `:`, an array's count behind `*`; `_` ahead is a bit-field without a name, as is one of 0 bits.
func fields(s string) []api.Field {
	var l []api.Field
	for i, w := range strings.Fields(s) {
		f := field("m"+strconv.Itoa(i), pointer())
		w, nameless := strings.CutPrefix(w, "_")
		w, bits, isBits := strings.Cut(w, ":")
		w, count, isArray := strings.Cut(w, "*")
		if w != "ptr" {
			f.T = integer(kindWords[w])
		}
		if isBits {
			f.Bits, _ = strconv.Atoi(bits)
		}
		if isArray {
			n, _ := strconv.ParseInt(count, 10, 64)
			f.T = array(n, f.T)
		}
		if nameless || f.Bits == 0 {
			f.Name = ""
		}
		l = append(l, f)
	}
	return l
}

func structs(s string) api.Type { return structOf(fields(s)...) }

func unions(s string) api.Type { return unionOf(fields(s)...) }

// show keeps a failure of a great type readable.
func show(t any) string { return fmt.Sprintf("%.500s", fmt.Sprintf("%+v", t)) }

func wantSize(t *testing.T, of api.Type, size, align int64) {
	t.Helper()
	if n, a, e := shape.Size(of); n != size || a != align || e != api.OK {
		t.Errorf("%s: %d, %d, %d; want %d, %d", show(of), n, a, e, size, align)
	}
	if e := shape.Right(of); e != api.OK {
		t.Errorf("%s: %d", show(of), e)
	}
}

// wantLies looks at a struct's or union's size and alignment, and at its members' first bits.
func wantLies(t *testing.T, of api.Type, size, align int64, bits ...int64) {
	t.Helper()
	wantSize(t, of, size, align)
	l, e := shape.Members(of)
	var told []int64
	for _, s := range l {
		told = append(told, s.Bit)
	}
	if !slices.Equal(told, bits) || e != api.OK {
		t.Errorf("%s: %v, %d; want %v", show(of), told, e, bits)
	}
	wantFollows(t, of)
}

// wantError looks at all calls that have an error.
func wantError(t *testing.T, of api.Type, errno api.Errno) {
	t.Helper()
	if e := shape.Right(of); e != errno {
		t.Errorf("%s: Right %d; want %d", show(of), e, errno)
	}
	if n, a, e := shape.Size(of); n != 0 || a != 0 || e != errno {
		t.Errorf("%s: Size %d, %d, %d; want %d", show(of), n, a, e, errno)
	}
	if l, e := shape.Members(of); len(l) != 0 || e != errno {
		t.Errorf("%s: Members %s, %d; want %d", show(of), show(l), e, errno)
	}
	if l, e := shape.Leaves(of); len(l) != 0 || e != errno {
		t.Errorf("%s: Leaves %s, %d; want %d", show(of), show(l), e, errno)
	}
}

// wantWrong puts a type that is wrong, alone, within others too.
func wantWrong(t *testing.T, of api.Type) {
	t.Helper()
	for _, x := range []api.Type{
		of, array(3, of), array(math.MaxInt64, of), structOf(field("a", of)), unionOf(field("a", integer(api.KInt)), field("b", of)),
		packed(structOf(field("a", array(70000, integer(api.KLong))), field("b", of), field("c", pointer()))), structOf(field("a", unionOf(field("a", array(2, of))))),
	} {
		wantError(t, x, api.ErrShape)
	}
}

func wantMembers(t *testing.T, of api.Type, want ...api.Spot) {
	t.Helper()
	if l, e := shape.Members(of); !slices.Equal(l, want) || e != api.OK {
		t.Errorf("%s: %s, %d; want %s", show(of), show(l), e, show(want))
	}
}

func wantLeaves(t *testing.T, of api.Type, want ...api.Spot) {
	t.Helper()
	if l, e := shape.Leaves(of); !slices.Equal(l, want) || e != api.OK {
		t.Errorf("%s: %s, %d; want %s", show(of), show(l), e, show(want))
	}
}

// wantLeavesError looks at a type that is right, but has too many numbers.
func wantLeavesError(t *testing.T, of api.Type) {
	t.Helper()
	if e := shape.Right(of); e != api.OK {
		t.Errorf("%s: %d", show(of), e)
	}
	if l, e := shape.Leaves(of); len(l) != 0 || e != api.ErrBig {
		t.Errorf("%s: %s, %d", show(of), show(l), e)
	}
}

// wantBare holds all calls against the second reading.
func wantBare(t *testing.T, of api.Type) {
	t.Helper()
	if e := bareErrno(of); e != api.OK {
		wantError(t, of, e)
		return
	}
	size, align := bareSize(of)
	wantSize(t, of, size.Int64(), align)
	if of.Shape == api.SStruct || of.Shape == api.SUnion {
		wantMembers(t, of, barePlaces(of)...)
		wantFollows(t, of)
	} else if l, e := shape.Members(of); len(l) != 0 || e != api.ErrShape {
		t.Errorf("%s: %s, %d", show(of), show(l), e)
	}
	if bareCount(of) > 2000 {
		wantLeavesError(t, of)
		return
	}
	wantLeaves(t, of, bareLeaves(of)...)
}

// wantFollows looks at P10.4 of a struct or union.
func wantFollows(t *testing.T, of api.Type) {
	t.Helper()
	size, align, _ := shape.Size(of)
	if size%align != 0 || size < 1 {
		t.Errorf("%s: %d bytes, aligned to %d", show(of), size, align)
	}
	l, _ := shape.Members(of)
	end := int64(0)
	for i, s := range l {
		f := of.Fields[i]
		own, unit, _ := shape.Size(f.T)
		if s.Bit < 0 || s.Bit+s.Bits > 8*size {
			t.Errorf("%s: %d does not lie within it: %+v", show(of), i, s)
		}
		if of.Shape == api.SStruct && s.Bit < end || of.Shape == api.SUnion && s.Bit != 0 {
			t.Errorf("%s: %d lies at %+v, and the one ahead ends at %d", show(of), i, s, end)
		}
		end = s.Bit + s.Bits
		switch {
		case f.Bits < 0 && (s.Bits != 8*own || s.Bit%8 != 0 || !of.Packed && s.Bit%(8*unit) != 0):
			t.Errorf("%s: %d lies at %+v, aligned to %d", show(of), i, s, unit)
		case f.Bits > 0 && !of.Packed && s.Bit/(8*own) != (end-1)/(8*own):
			t.Errorf("%s: %d lies at %+v, in two units of %d", show(of), i, s, own)
		}
	}
}

// The chapter's examples, and that of the whole that is of structs.
func TestExamples(t *testing.T) {
	wantLies(t, structs("char int short"), 12, 4, 0, 32, 64)
	wantLies(t, packed(structs("char int short")), 7, 1, 0, 8, 40)
	wantLies(t, structs("int:3 int:30 char"), 12, 4, 0, 32, 64)
	wantLies(t, structs("char int:4 int:0 char"), 8, 4, 0, 8, 32, 32)
	wantLies(t, aligned(16, unions("int long")), 16, 16, 0, 0)
}

// P10.2: what has no members.
func TestNumbers(t *testing.T) {
	sizes := []int64{1, 1, 2, 2, 4, 4, 8, 8}
	for i, k := range kinds {
		wantSize(t, integer(k), sizes[i], sizes[i])
		wantSize(t, array(7, integer(k)), 7*sizes[i], sizes[i])
		wantSize(t, array(3, array(5, integer(k))), 15*sizes[i], sizes[i])
		wantLeaves(t, integer(k), api.Spot{Bits: 8 * sizes[i], K: k})
	}
	wantSize(t, pointer(), 8, 8)
	wantSize(t, array(1, pointer()), 8, 8)
	wantSize(t, array(3, packed(structs("char int short"))), 21, 1)
	wantSize(t, array(3, aligned(8, structs("char"))), 24, 8)
	for _, x := range []api.Type{integer(api.KInt), pointer(), array(2, structs("int"))} {
		if l, e := shape.Members(x); len(l) != 0 || e != api.ErrShape {
			t.Errorf("%s: %s, %d", show(x), show(l), e)
		}
	}
}

// P10.2: members that are none of bits.
func TestStructs(t *testing.T) {
	wantLies(t, structs("char"), 1, 1, 0)
	wantLies(t, structs("char char char"), 3, 1, 0, 8, 16)
	wantLies(t, structs("char long char"), 24, 8, 0, 64, 128)
	wantLies(t, structs("char short char int"), 12, 4, 0, 16, 32, 64)
	wantLies(t, structs("char ptr"), 16, 8, 0, 64)
	wantLies(t, structs("short char*3 int"), 12, 4, 0, 16, 64)
	wantLies(t, structs("char int*3 char"), 20, 4, 0, 32, 128)
	wantLies(t, packed(structs("char long char ptr short")), 20, 1, 0, 8, 72, 80, 144)
	wantLies(t, structOf(field("a", integer(api.KChar)), field("b", structs("char int short")), field("c", integer(api.KChar))), 20, 4, 0, 32, 128)
	wantLies(t, structOf(field("a", integer(api.KChar)), field("b", packed(structs("char int short"))), field("c", integer(api.KShort))), 10, 2, 0, 8, 64)
	wantLies(t, packed(structOf(field("a", integer(api.KChar)), field("b", structs("char int short")), field("c", integer(api.KLong)))), 21, 1, 0, 8, 104)
	wantLies(t, structOf(field("a", integer(api.KChar)), field("b", aligned(32, structs("char")))), 64, 32, 0, 256)
	wantLies(t, packed(structOf(field("a", integer(api.KChar)), field("b", aligned(32, structs("char"))))), 33, 1, 0, 8)
}

// P10.2: unions.
func TestUnions(t *testing.T) {
	wantLies(t, unions("char int short"), 4, 4, 0, 0, 0)
	wantLies(t, unions("char*5 int"), 8, 4, 0, 0)
	wantLies(t, packed(unions("char*5 int")), 5, 1, 0, 0)
	wantLies(t, packed(aligned(2, unions("char*5 int"))), 6, 2, 0, 0)
	wantLies(t, unions("int:3 char"), 4, 4, 0, 0)
	wantLies(t, unions("_int:17 char"), 3, 1, 0, 0)
	wantLies(t, unions("long:9 int:0 long:0 char"), 8, 8, 0, 0, 0, 0)
	wantLies(t, packed(unions("long:9 int:0 char")), 2, 1, 0, 0, 0)
	wantLies(t, unions("char int:0"), 1, 1, 0, 0)
}

// P10.2: bit-fields that just fit, and those that would else have bits on both sides.
func TestBitFields(t *testing.T) {
	wantLies(t, structs("int:3 int:29 char"), 8, 4, 0, 3, 32)
	wantLies(t, structs("int:2 int:30"), 4, 4, 0, 2)
	wantLies(t, structs("int:2 int:31"), 8, 4, 0, 32)
	wantLies(t, structs("char:5 char:3 char:8"), 2, 1, 0, 5, 8)
	wantLies(t, structs("char:5 char:4 char:5"), 3, 1, 0, 8, 16)
	wantLies(t, structs("char short:9"), 4, 2, 0, 16)
	wantLies(t, structs("char short:8"), 2, 2, 0, 8)
	wantLies(t, structs("char*3 int:9"), 8, 4, 0, 32)
	wantLies(t, structs("char*3 int:8 int:1"), 8, 4, 0, 24, 32)
	wantLies(t, structs("char*3 long:40"), 8, 8, 0, 24)
	wantLies(t, structs("char*3 long:41"), 16, 8, 0, 64)
	wantLies(t, structs("int:31 char:2 int:1"), 8, 4, 0, 32, 34)
	wantLies(t, structs("int:31 long:33 long:64"), 16, 8, 0, 31, 64)
	wantLies(t, structs("int:3 short"), 4, 4, 0, 16)
	wantLies(t, structs("int:32 uint:32 ulong:64 uchar:8 ushort:16"), 24, 8, 0, 32, 64, 128, 144)
	wantLies(t, structs("long:1"), 8, 8, 0)
}

// P10.2: packed bit-fields lie at once.
func TestPackedBitFields(t *testing.T) {
	wantLies(t, packed(structs("int:3 int:30 char")), 6, 1, 0, 3, 40)
	wantLies(t, packed(structs("char:5 char:4 char:5")), 2, 1, 0, 5, 9)
	wantLies(t, packed(structs("char:7 long:64 char:1 char")), 10, 1, 0, 7, 71, 72)
	wantLies(t, packed(structs("int:1")), 1, 1, 0)
	wantLies(t, packed(structs("int:8 _int:1")), 2, 1, 0, 8)
	wantLies(t, packed(aligned(4, structs("int:3 int:30 char"))), 8, 4, 0, 3, 40)
}

// P10.2: bit-fields of 0 bits, packed and not, also as the last one.
func TestZeroBits(t *testing.T) {
	wantLies(t, packed(structs("char int:4 int:0 char")), 5, 1, 0, 8, 32, 32)
	wantLies(t, structs("char char:0 char"), 2, 1, 0, 8, 8)
	wantLies(t, structs("char long:0 char"), 9, 1, 0, 64, 64)
	wantLies(t, packed(structs("char long:0 char")), 9, 1, 0, 64, 64)
	wantLies(t, structs("int:0 int:0 char"), 1, 1, 0, 0, 0)
	wantLies(t, structs("int int:0 char"), 8, 4, 0, 32, 32)
	wantLies(t, structs("char int:0"), 4, 1, 0, 32)
	wantLies(t, packed(structs("char int:0")), 4, 1, 0, 32)
	wantLies(t, structs("char:3 short:0 char:3"), 3, 1, 0, 16, 16)
	wantLies(t, structs("char:3 short:0 long:0 char:3"), 9, 1, 0, 16, 64, 64)
	wantLies(t, packed(structs("int:3 char:0 int:30 short:0 char:1")), 7, 1, 0, 8, 8, 48, 48)
}

// P10.2: bit-fields without a name take their bits, and align nothing.
func TestNameless(t *testing.T) {
	wantLies(t, structs("char _int:4"), 2, 1, 0, 8)
	wantLies(t, structs("char _int:25 char"), 9, 1, 0, 32, 64)
	wantLies(t, structs("_long:64 char"), 9, 1, 0, 64)
	wantLies(t, structs("_long:3 short:3"), 2, 2, 0, 3)
	wantLies(t, structs("_int:3 _int:30 char:1"), 8, 1, 0, 32, 62)
	wantLies(t, structs("_int:3 long:3"), 8, 8, 0, 3)
}

// P10.2: each Align, of types that are aligned to less and to more, packed and not.
func TestAligns(t *testing.T) {
	wantLies(t, aligned(0, structs("char")), 1, 1, 0)
	wantLies(t, aligned(2, structs("char long")), 16, 8, 0, 64)
	wantLies(t, aligned(64, structs("char long")), 64, 64, 0, 64)
	wantLies(t, packed(aligned(4, structs("char long"))), 12, 4, 0, 8)
	for _, n := range []int64{1, 2, 4, 8, 16, 32, 64} {
		wantLies(t, aligned(n, structs("char")), n, n, 0)
		wantLies(t, aligned(n, unions("char")), n, n, 0)
		wantLies(t, packed(aligned(n, structs("char int"))), max(n, (5+n-1)/n*n), n, 0, 8)
		wantLies(t, aligned(n, structs("int")), max(n, 4), max(n, 4), 0)
		wantLies(t, structOf(field("a", integer(api.KChar)), field("b", aligned(n, structs("char")))), 2*n, n, 0, 8*n)
	}
	for _, n := range []int64{-1, -2, -64, 3, 5, 6, 7, 9, 12, 24, 48, 63, 65, 96, 128, 256, 1 << 32, 1<<32 + 8, 1 << 62, math.MaxInt64, math.MinInt64} {
		wantWrong(t, aligned(n, structs("char")))
		wantWrong(t, packed(aligned(n, unions("char"))))
	}
}

// P10.2: all of each spot.
func TestMembers(t *testing.T) {
	wantMembers(t, structOf(
		field("a", integer(api.KUShort)), field("b", pointer()), field("c", array(3, integer(api.KInt))),
		field("d", structs("long char")), field("e", unions("int")), bitField("f", api.KUInt, 5), bitField("", api.KChar, 0), bitField("", api.KULong, 7),
	),
		api.Spot{Bit: 0, Bits: 16, K: api.KUShort}, api.Spot{Bit: 64, Bits: 64}, api.Spot{Bit: 128, Bits: 96},
		api.Spot{Bit: 256, Bits: 128}, api.Spot{Bit: 384, Bits: 32}, api.Spot{Bit: 416, Bits: 5, K: api.KUInt}, api.Spot{Bit: 424, K: api.KChar}, api.Spot{Bit: 424, Bits: 7, K: api.KULong})
	wantMembers(t, unionOf(field("a", pointer()), bitField("b", api.KShort, 16), field("c", integer(api.KChar))),
		api.Spot{Bits: 64}, api.Spot{Bits: 16, K: api.KShort}, api.Spot{Bits: 8, K: api.KChar})
	for _, k := range kinds {
		for bits := 1; bits <= bareBits[k]; bits++ {
			wantMembers(t, structOf(bitField("a", k, bits)), api.Spot{Bits: int64(bits), K: k})
			wantBare(t, structOf(bitField("a", k, 1), bitField("b", k, bits), bitField("", k, bits), field("c", integer(k))))
		}
	}
}

// P10.3: numbers within, by hand.
func TestLeaves(t *testing.T) {
	wantLeaves(t, pointer(), api.Spot{Bits: 64, K: api.KULong})
	wantLeaves(t, array(2, pointer()), api.Spot{Bits: 64, K: api.KULong}, api.Spot{Bit: 64, Bits: 64, K: api.KULong})
	wantLeaves(t, structs("char int:4 int:0 _int:3 char"),
		api.Spot{Bit: 0, Bits: 8, K: api.KChar}, api.Spot{Bit: 8, Bits: 4, K: api.KInt}, api.Spot{Bit: 32, Bits: 3, K: api.KInt}, api.Spot{Bit: 40, Bits: 8, K: api.KChar})
	wantLeaves(t, array(2, structs("char int")),
		api.Spot{Bit: 0, Bits: 8, K: api.KChar}, api.Spot{Bit: 32, Bits: 32, K: api.KInt}, api.Spot{Bit: 64, Bits: 8, K: api.KChar}, api.Spot{Bit: 96, Bits: 32, K: api.KInt})
	inner := unionOf(field("a", integer(api.KInt)), field("b", packed(structs("uchar ushort"))), bitField("", api.KInt, 0), bitField("", api.KInt, 5))
	wantLeaves(t, structOf(field("a", integer(api.KShort)), field("b", array(2, inner)), field("c", pointer())),
		api.Spot{Bit: 0, Bits: 16, K: api.KShort},
		api.Spot{Bit: 32, Bits: 32, K: api.KInt}, api.Spot{Bit: 32, Bits: 8, K: api.KUChar}, api.Spot{Bit: 40, Bits: 16, K: api.KUShort}, api.Spot{Bit: 32, Bits: 5, K: api.KInt},
		api.Spot{Bit: 64, Bits: 32, K: api.KInt}, api.Spot{Bit: 64, Bits: 8, K: api.KUChar}, api.Spot{Bit: 72, Bits: 16, K: api.KUShort}, api.Spot{Bit: 64, Bits: 5, K: api.KInt},
		api.Spot{Bit: 128, Bits: 64, K: api.KULong})
}

// P10.3: 2000 numbers, and one more.
func TestManyLeaves(t *testing.T) {
	char := integer(api.KChar)
	for _, x := range []api.Type{
		array(2000, char), array(40, array(50, char)), array(1000, structs("char int:0 int:3 long:0")), array(50, array(4, unions("char*5 int:3 int:0 long*4"))),
		structs("char*1999 int"), unions("char*1998 int:5 _int:7"), packed(structs("_int:1 ptr*1999")),
	} {
		wantBare(t, x)
		if l, e := shape.Leaves(x); len(l) != 2000 || e != api.OK {
			t.Errorf("%s: %d numbers, %d", show(x), len(l), e)
		}
		wantLeavesError(t, structOf(field("a", x), field("b", char)))
		wantLeavesError(t, unionOf(bitField("", api.KInt, 1), field("a", x)))
	}
	for _, x := range []api.Type{array(2001, char), array(65536, char), array(3, array(667, char)), unions("char*1000 char*1001"), unions("char*65536 char*65536"), structs("char*65535 _char:1")} {
		wantLeavesError(t, x)
	}
}

// deeper puts a type within others, so many.
func deeper(t api.Type, by int, wraps ...func(api.Type) api.Type) api.Type {
	for i := range by {
		t = wraps[i%len(wraps)](t)
	}
	return t
}

var wraps = []func(api.Type) api.Type{
	func(t api.Type) api.Type { return array(2, t) },
	func(t api.Type) api.Type { return structOf(field("a", integer(api.KChar)), field("b", t)) },
	func(t api.Type) api.Type { return unionOf(field("a", t), field("b", pointer())) },
	func(t api.Type) api.Type { return packed(structOf(bitField("", api.KInt, 3), field("b", t))) },
}

// P10.1: types that are 6 deep, and 7.
func TestDeep(t *testing.T) {
	for i := range wraps {
		for k := range wraps {
			for _, inner := range []api.Type{integer(api.KShort), pointer()} {
				wantBare(t, deeper(inner, 5, wraps[i], wraps[k]))
				for by := 6; by < 12; by++ {
					wantError(t, deeper(inner, by, wraps[i], wraps[k]), api.ErrShape)
				}
			}
			wantBare(t, deeper(structs("int:3 char"), 4, wraps[i], wraps[k]))
			wantError(t, deeper(structs("int:3 char"), 5, wraps[i], wraps[k]), api.ErrShape)
			wantError(t, deeper(array(math.MaxInt64, pointer()), 4, wraps[i], wraps[k]), api.ErrBig)
			wantError(t, deeper(array(math.MaxInt64, pointer()), 5, wraps[i], wraps[k]), api.ErrShape)
		}
	}
	if _, _, e := shape.Size(deeper(integer(api.KInt), 5, wraps[0])); e != api.OK {
		t.Error(e)
	}
}

// many are so many members with names of their own.
func many(n int, f api.Field) []api.Field {
	var l []api.Field
	for i := range n {
		if f.Name != "" {
			f.Name = "m" + strconv.Itoa(i)
		}
		l = append(l, f)
	}
	return l
}

// P10.1: 40 members, 41 and none.
func TestManyMembers(t *testing.T) {
	for _, f := range []api.Field{field("a", integer(api.KInt)), bitField("a", api.KInt, 7), field("a", structs("char long:5"))} {
		for n := 1; n <= 40; n++ {
			wantBare(t, structOf(many(n, f)...))
			wantBare(t, unionOf(many(n, f)...))
		}
		for _, n := range []int{0, 41, 42, 80, 1000} {
			wantWrong(t, structOf(many(n, f)...))
			wantWrong(t, packed(unionOf(many(n, f)...)))
		}
	}
	last := field("last", integer(api.KChar))
	wantBare(t, structOf(append(many(39, bitField("", api.KInt, 0)), last)...))
	wantWrong(t, structOf(append(many(40, bitField("", api.KInt, 0)), last)...))
	wantWrong(t, structOf(append(many(40, bitField("", api.KInt, 5)), last)...))
	wantWrong(t, api.Type{Shape: api.SStruct, Fields: []api.Field{}})
}

// P10.1: 65536 bytes, and one more, of the whole and of a part; ErrShape is named first.
func TestBig(t *testing.T) {
	char := integer(api.KChar)
	for _, x := range []struct{ fits, big api.Type }{
		{array(65536, char), array(65537, char)},
		{array(32768, integer(api.KShort)), array(32769, integer(api.KShort))},
		{array(8192, pointer()), array(8193, pointer())},
		{array(256, array(256, char)), array(256, array(257, char))},
		{array(16384, packed(structs("char short char"))), array(16385, packed(structs("char short char")))},
		{structs("char*65535 char"), structs("char*65536 char")},
		{structs("char*65535 int:8"), structs("char*65535 int:9")},
		{packed(structs("char*65535 int:8")), packed(structs("char*65535 int:9"))},
		{structs("char*65532 int"), structs("char*65533 int")},
		{structs("char*65536 int:0"), structs("char*65536 _int:1")},
		{unions("char*65536 int"), unions("char*65537 int")},
		{aligned(64, structs("char*65535")), aligned(64, structs("char*65537"))},
		{structs("char*65534 _char:7 _char:7"), structs("char*65535 _char:7 _char:7")},
		{structs("char*65528 long:0 char*8"), structs("char*65529 long:0 char")},
	} {
		wantSize(t, x.fits, 65536, alignOf(t, x.fits))
		wantError(t, x.big, api.ErrBig)
		wantError(t, array(1, x.big), api.ErrBig)
		wantError(t, structOf(field("a", x.big)), api.ErrBig)
		wantError(t, unionOf(field("a", char), field("b", x.big)), api.ErrBig)
		wantError(t, array(2, x.fits), api.ErrBig)
		wantError(t, structOf(field("a", x.fits), field("b", char)), api.ErrBig)
		wantError(t, structOf(field("a", x.big), field("b", integer(0))), api.ErrShape)
		wantError(t, structOf(field("b", integer(0)), field("a", x.big)), api.ErrShape)
		wantError(t, structOf(field("a", x.big), field("a", char)), api.ErrShape)
	}
}

func alignOf(t *testing.T, of api.Type) int64 {
	t.Helper()
	_, align, e := shape.Size(of)
	if e != api.OK || align < 1 {
		t.Errorf("%s: %d, %d", show(of), align, e)
	}
	return align
}

// P10.1: counts whose products go round in 64 bits.
func TestGreatCounts(t *testing.T) {
	counts := []int64{65537, 1 << 31, 1 << 32, 1<<32 + 1, 1 << 58, 1 << 60, 1<<61 + 1, 1 << 62, math.MaxInt64 - 1, math.MaxInt64}
	for _, n := range counts {
		for _, of := range []api.Type{integer(api.KChar), integer(api.KLong), pointer(), structs("char int short"), array(4, integer(api.KInt)), array(65536, integer(api.KChar))} {
			wantError(t, array(n, of), api.ErrBig)
			wantError(t, array(2, array(n, of)), api.ErrBig)
			for _, more := range counts {
				wantError(t, array(more, array(n, of)), api.ErrBig)
				wantError(t, array(more, structOf(field("a", array(n, of)), field("b", array(more, of)))), api.ErrBig)
			}
		}
	}
	wantError(t, structOf(many(40, field("a", array(math.MaxInt64, pointer())))...), api.ErrBig)
	wantError(t, structOf(many(40, field("a", array(65536, integer(api.KChar))))...), api.ErrBig)
}

// P10.1: what is none in one thing.
func TestWrong(t *testing.T) {
	for _, s := range noShapes {
		for _, x := range []api.Type{integer(api.KInt), pointer(), array(2, pointer()), structs("int"), {}} {
			x.Shape = s
			wantWrong(t, x)
		}
	}
	for _, k := range noKinds {
		wantWrong(t, integer(k))
		for _, bits := range []int{0, 1, 8, 100} {
			wantWrong(t, structOf(field("a", pointer()), bitField("", k, bits)))
			wantWrong(t, structOf(bitField("a", k, bits)))
		}
	}
	for _, n := range []int64{0, -1, -2, -65536, -1 << 32, math.MinInt64, math.MinInt64 + 1} {
		wantWrong(t, array(n, integer(api.KInt)))
		wantWrong(t, array(n, structs("int")))
	}
	wantWrong(t, api.Type{Shape: api.SArray, N: 2})
	wantWrong(t, api.Type{Shape: api.SArray, N: 2, Of: []api.Type{}})
	wantWrong(t, api.Type{Shape: api.SArray, N: 2, Of: []api.Type{pointer(), pointer()}})
	wantWrong(t, api.Type{Shape: api.SArray, N: 1, Of: []api.Type{integer(0)}})
	wantWrong(t, api.Type{Shape: api.SArray, Of: []api.Type{pointer()}})
}

// P10.1: what a Shape does not name.
func TestNotNamed(t *testing.T) {
	set := map[string]func(*api.Type){
		"K":      func(x *api.Type) { x.K = api.KInt },
		"K -1":   func(x *api.Type) { x.K = -1 },
		"N":      func(x *api.Type) { x.N = 1 },
		"N -1":   func(x *api.Type) { x.N = -1 },
		"Of":     func(x *api.Type) { x.Of = []api.Type{integer(api.KInt)} },
		"Fields": func(x *api.Type) { x.Fields = fields("int") },
		"Packed": func(x *api.Type) { x.Packed = true },
		"Align":  func(x *api.Type) { x.Align = 8 },
		"1":      func(x *api.Type) { x.Align = 1 },
	}
	for _, x := range []struct {
		of    api.Type
		named string
	}{
		{integer(api.KChar), "K"}, {pointer(), ""}, {array(2, pointer()), "N Of"}, {structs("char"), "Fields Packed Align 1"}, {unions("char"), "Fields Packed Align 1"},
	} {
		for name, do := range set {
			changed := x.of
			do(&changed)
			if slices.Contains(strings.Fields(x.named), name) {
				if e := shape.Right(changed); e != api.OK {
					t.Errorf("%s: %d", show(changed), e)
				}
				continue
			}
			wantWrong(t, changed)
		}
		empty := x.of
		empty.Of, empty.Fields = append([]api.Type{}, x.of.Of...), append([]api.Field{}, x.of.Fields...)
		if e := shape.Right(empty); e != api.OK || !shape.Same(x.of, empty) {
			t.Errorf("%s: %d", show(empty), e)
		}
	}
}

// P10.1: names that are alike, that are not, and that are not there.
func TestNames(t *testing.T) {
	long := strings.Repeat("n", 1<<20)
	for _, names := range [][]string{{"a", "a"}, {"a", "b", "a"}, {"b", "a", "a", "c"}, {" ", " "}, {long, "b", long}, {"\xff", "\xff"}, {"\x00", "a", "\x00"}} {
		for _, shapeOf := range []func(...api.Field) api.Type{structOf, unionOf} {
			var plain, bits, both []api.Field
			for i, n := range names {
				plain = append(plain, field(n, integer(api.KInt)))
				bits = append(bits, bitField(n, api.KInt, i+1))
				both = append(both, []api.Field{field(n, pointer()), bitField(n, api.KChar, 1)}[i%2])
			}
			wantWrong(t, shapeOf(plain...))
			wantWrong(t, packed(shapeOf(bits...)))
			wantWrong(t, shapeOf(both...))
		}
	}
	for _, names := range [][]string{{"a", "A"}, {"a", "a "}, {"a", "aa", "aaa"}, {long, long + "n"}, {"", "a", "", ""}, {"\x00", "\x00\x00"}, {"int", "5", "*"}, {"\xff", "\xfe"}} {
		var bits []api.Field
		for _, n := range names {
			bits = append(bits, bitField(n, api.KInt, 3))
		}
		wantBare(t, structOf(bits...))
		wantBare(t, unionOf(bits...))
	}
	wantBare(t, structOf(field("a", structOf(field("a", unionOf(field("a", integer(api.KInt))))))))
	for _, s := range []string{"int:0", "_int:5", "int:0 _int:5 char:0", "_long:64 _long:64"} {
		wantWrong(t, structs(s))
		wantWrong(t, unions(s))
		wantBare(t, structOf(append(fields(s), field("a", structs("char")))...))
	}
	wantWrong(t, structOf(field("", integer(api.KInt))))
	wantWrong(t, structOf(field("a", pointer()), field("", structs("int"))))
}

// P10.1: Bits of all sorts.
func TestBits(t *testing.T) {
	for _, k := range kinds {
		for _, bits := range []int{bareBits[k] + 1, bareBits[k] + 8, 65, 128, 256, 1<<32 + 1, 1 << 32, math.MaxInt32, math.MaxInt} {
			wantWrong(t, structOf(bitField("a", k, bits)))
			wantWrong(t, packed(unionOf(field("a", pointer()), bitField("", k, bits))))
		}
		for _, bits := range []int{-1, -2, -3, -8, -64, math.MinInt32, math.MinInt} {
			plain, below := structOf(field("a", integer(k)), field("b", pointer())), structOf(bitField("a", k, bits), field("b", pointer()))
			wantBare(t, below)
			if bits != -1 && shape.Same(plain, below) {
				t.Errorf("%d bits are alike", bits)
			}
			wantWrong(t, structOf(field("a", pointer()), bitField("", k, bits)))
		}
		wantWrong(t, structOf(field("a", pointer()), bitField("b", k, 0)))
	}
	for _, of := range []api.Type{pointer(), array(1, integer(api.KInt)), structs("int"), unions("int"), {}} {
		for _, bits := range []int{0, 1, 8, 32, 64} {
			wantWrong(t, structOf(api.Field{Name: "a", T: of, Bits: bits}))
			wantWrong(t, structOf(field("a", integer(api.KInt)), api.Field{T: of, Bits: bits}))
		}
	}
	wrong := integer(api.KInt)
	wrong.Align = 4
	wantWrong(t, structOf(api.Field{Name: "a", T: wrong, Bits: 3}))
}

package image_test

import (
	"fmt"
	"math"
	"math/big"
	"slices"
	"strconv"
	"strings"
	"testing"

	"burin/api"
	"burin/image"
	"burin/shape"
)

var kindWords = []string{"void", "char", "uchar", "short", "ushort", "int", "uint", "long", "ulong"}

// reader reads types as tests write them: a kind or ptr; {..} is a struct, (..) a union, ! ahead packed; *N behind is an array of so many, @N aligned, :N a bit-field's bits; _ ahead of a bit-field, or 0 bits: no name.
type reader struct{ rest string }

func of(s string) api.Type {
	r := reader{s}
	t := r.whole()
	if r.rest != "" {
		panic("no type: " + s)
	}
	return t
}

func (r *reader) take(s string) bool {
	rest, ok := strings.CutPrefix(r.rest, s)
	r.rest = rest
	return ok
}

// run takes the longest run of what is wanted.
func (r *reader) run(wanted string) string {
	rest := strings.TrimLeft(r.rest, wanted)
	s := strings.TrimSuffix(r.rest, rest)
	r.rest = rest
	return s
}

func (r *reader) number() int64 {
	n, err := strconv.ParseInt(r.run("-0123456789"), 10, 64)
	if err != nil {
		panic(err)
	}
	return n
}

func (r *reader) whole() api.Type {
	t := api.Type{Packed: r.take("!")}
	switch {
	case r.take("{"):
		t.Shape, t.Fields = api.SStruct, r.members("}")
	case r.take("("):
		t.Shape, t.Fields = api.SUnion, r.members(")")
	case r.take("ptr"):
		t.Shape = api.SPtr
	default:
		t.Shape, t.K = api.SInt, slices.Index(kindWords, r.run("abcdefghijklmnopqrstuvwxyz"))
	}
	for {
		switch {
		case r.take("*"):
			t = api.Type{Shape: api.SArray, N: r.number(), Of: []api.Type{t}}
		case r.take("@"):
			t.Align = r.number()
		default:
			return t
		}
	}
}

func (r *reader) members(end string) []api.Field {
	var l []api.Field
	for !r.take(end) {
		f := api.Field{Name: "m" + strconv.Itoa(len(l)), Bits: -1}
		nameless := r.take("_")
		f.T = r.whole()
		if r.take(":") {
			f.Bits = int(r.number())
		}
		if nameless || f.Bits == 0 {
			f.Name = ""
		}
		l = append(l, f)
		r.run(" ")
	}
	return l
}

func path(l ...int) []int { return l }

func set(v int64, path ...int) api.Set { return api.Set{Path: path, V: v} }

// show keeps a failure of a great thing readable.
func show(x any) string { return fmt.Sprintf("%.500s", fmt.Sprintf("%v", x)) }

// hex is bytes as the chapter writes them.
func hex(s string) string { return fmt.Sprintf("% X", s) }

// someBytes are as many as a type has, if it is right.
func someBytes(t api.Type, fill byte) string {
	size, _, _ := shape.Size(t)
	return strings.Repeat(string([]byte{fill}), int(size))
}

func wantSpot(t *testing.T, s string, p []int, want api.Spot) {
	t.Helper()
	if spot, e := image.Spot(of(s), p); spot != want || e != api.OK {
		t.Errorf("%s %s: %+v, %d; want %+v", s, show(p), spot, e, want)
	}
}

func wantMake(t *testing.T, s string, want string, l ...api.Set) {
	t.Helper()
	if b, e, i := image.Make(of(s), l); hex(b) != want || e != api.OK || i != 0 {
		t.Errorf("%s %s: %s, %d, %d; want %s", s, show(l), hex(b), e, i, want)
	}
}

func wantMakeError(t *testing.T, x api.Type, l []api.Set, errno api.Errno, place int) {
	t.Helper()
	if b, e, i := image.Make(x, l); b != "" || e != errno || i != place {
		t.Errorf("%s %s: %s, %d, %d; want %d, %d", show(x), show(l), hex(b), e, i, errno, place)
	}
}

func wantGet(t *testing.T, x api.Type, bytes string, p []int, want int64) {
	t.Helper()
	if v, e := image.Get(x, bytes, p); v != want || e != api.OK {
		t.Errorf("%s %s of %s: %d, %d; want %d", show(x), show(p), show(hex(bytes)), v, e, want)
	}
}

func wantPut(t *testing.T, x api.Type, bytes string, p []int, v int64, want string) {
	t.Helper()
	if b, e := image.Put(x, bytes, p, v); b != want || e != api.OK {
		t.Errorf("%s %s of %s, put %d: %s, %d; want %s", show(x), show(p), show(hex(bytes)), v, show(hex(b)), e, show(hex(want)))
	}
}

// wantBytesError looks at the calls that are given bytes.
func wantBytesError(t *testing.T, x api.Type, bytes string, p []int, errno api.Errno) {
	t.Helper()
	if v, e := image.Get(x, bytes, p); v != 0 || e != errno {
		t.Errorf("%s %s of %d bytes: Get %d, %d; want %d", show(x), show(p), len(bytes), v, e, errno)
	}
	if b, e := image.Put(x, bytes, p, 5); b != "" || e != errno {
		t.Errorf("%s %s of %d bytes: Put %s, %d; want %d", show(x), show(p), len(bytes), show(hex(b)), e, errno)
	}
}

// wantError looks at all calls, whatever bytes there are: what is wrong with the type or the path is named first.
func wantError(t *testing.T, x api.Type, p []int, errno api.Errno) {
	t.Helper()
	if s, e := image.Spot(x, p); s != (api.Spot{}) || e != errno {
		t.Errorf("%s %s: Spot %+v, %d; want %d", show(x), show(p), s, e, errno)
	}
	for _, bytes := range []string{someBytes(x, 0), someBytes(x, 255), "", someBytes(x, 1) + "s"} {
		wantBytesError(t, x, bytes, p, errno)
	}
	wantMakeError(t, x, []api.Set{{Path: p, V: 1}}, errno, 0)
}

// The chapter's examples.
func TestExamples(t *testing.T) {
	wantMake(t, "{char int:4 int:6}", "01 5F 00 00", set(1, 0), set(-1, 1), set(5, 2))
	wantMake(t, "short*2", "FF FF 02 01", set(258, 1), set(-1, 0))
	wantMake(t, "(int char)", "05 00 00 00", set(258, 0), set(5, 1))
	wantMake(t, "(int char)", "02 01 00 00", set(5, 1), set(258, 0))
	wantError(t, of("{char}"), path(1), api.ErrPath)
	wantError(t, of("{char}"), nil, api.ErrPath)
}

// P11.1: a path of no steps.
func TestNoSteps(t *testing.T) {
	bits := []int64{0, 8, 8, 16, 16, 32, 32, 64, 64}
	for k, word := range kindWords[1:] {
		for _, p := range [][]int{nil, {}} {
			wantSpot(t, word, p, api.Spot{Bits: bits[k+1], K: k + 1})
		}
		wantMake(t, word, strings.TrimSuffix(strings.Repeat("FF ", int(bits[k+1]/8)), " "), set(-1))
	}
	wantSpot(t, "ptr", nil, api.Spot{Bits: 64, K: api.KULong})
	for _, s := range []string{"{int}", "(int)", "int*1", "!{char:3}"} {
		wantError(t, of(s), nil, api.ErrPath)
		wantError(t, of(s), []int{}, api.ErrPath)
	}
}

// P11.1: paths, by hand, through arrays, structs, unions, to pointers and bit-fields.
func TestSpot(t *testing.T) {
	wantSpot(t, "int*7", path(6), api.Spot{Bit: 192, Bits: 32, K: api.KInt})
	wantSpot(t, "short*3*5", path(4, 2), api.Spot{Bit: 224, Bits: 16, K: api.KShort})
	wantSpot(t, "short*3*5", path(0, 1), api.Spot{Bit: 16, Bits: 16, K: api.KShort})
	wantSpot(t, "char*65536", path(65535), api.Spot{Bit: 524280, Bits: 8, K: api.KChar})
	wantSpot(t, "{char ptr}*2", path(1, 1), api.Spot{Bit: 192, Bits: 64, K: api.KULong})
	wantSpot(t, "!{char ptr}*2", path(1, 1), api.Spot{Bit: 80, Bits: 64, K: api.KULong})
	wantSpot(t, "(char ptr {short uint})", path(0), api.Spot{Bits: 8, K: api.KChar})
	wantSpot(t, "(char ptr {short uint})", path(1), api.Spot{Bits: 64, K: api.KULong})
	wantSpot(t, "(char ptr {short uint})", path(2, 1), api.Spot{Bit: 32, Bits: 32, K: api.KUInt})
	deep := "{char (int {short ptr}*2)*3 long:5}"
	wantSpot(t, deep, path(0), api.Spot{Bits: 8, K: api.KChar})
	wantSpot(t, deep, path(1, 0, 0), api.Spot{Bit: 64, Bits: 32, K: api.KInt})
	wantSpot(t, deep, path(1, 2, 1, 1, 1), api.Spot{Bit: 768, Bits: 64, K: api.KULong})
	wantSpot(t, deep, path(1, 2, 1, 1, 0), api.Spot{Bit: 704, Bits: 16, K: api.KShort})
	wantSpot(t, deep, path(2), api.Spot{Bit: 832, Bits: 5, K: api.KLong})
	bits := "{char int:4 int:0 _int:3 char uint:32}"
	wantSpot(t, bits, path(1), api.Spot{Bit: 8, Bits: 4, K: api.KInt})
	wantSpot(t, bits, path(3), api.Spot{Bit: 32, Bits: 3, K: api.KInt})
	wantSpot(t, bits, path(4), api.Spot{Bit: 40, Bits: 8, K: api.KChar})
	wantSpot(t, bits, path(5), api.Spot{Bit: 64, Bits: 32, K: api.KUInt})
	packed := "!{uchar:7 long:64 char:1 char}"
	wantSpot(t, packed, path(1), api.Spot{Bit: 7, Bits: 64, K: api.KLong})
	wantSpot(t, packed, path(2), api.Spot{Bit: 71, Bits: 1, K: api.KChar})
	wantSpot(t, packed, path(3), api.Spot{Bit: 72, Bits: 8, K: api.KChar})
	wantSpot(t, packed+"*3", path(2, 1), api.Spot{Bit: 167, Bits: 64, K: api.KLong})
	wantSpot(t, "({char}@16 int)*2", path(1, 0, 0), api.Spot{Bit: 128, Bits: 8, K: api.KChar})
}

// stepsBeside are none of a type of so many parts, some of which have a step in their lowest bits.
func stepsBeside(parts int) []int {
	return []int{-1, -2, -parts, parts, parts + 1, 1 << 16, 1<<16 + 1, 1 << 32, 1<<32 + 1, -1 << 32, 1 << 61, 1<<63 - 1, -1 << 63, math.MinInt + 1}
}

// P11.1 to P11.3: each step of a path made one that is none, and paths that are too short or too long.
func TestNoPath(t *testing.T) {
	for _, x := range []struct {
		of    string
		path  []int
		parts []int
	}{
		{"int", nil, nil},
		{"ptr", nil, nil},
		{"int*3", path(2), path(3)},
		{"{char int:3}", path(1), path(2)},
		{"{char int:3}", path(0), path(2)},
		{"(char ptr)", path(1), path(2)},
		{"!{char:8 long:64}*1", path(0, 1), path(1, 2)},
		{"{char (int {short ptr}*2)*3 long:5}", path(1, 2, 1, 1, 1), path(3, 3, 2, 2, 2)},
		{"{char (int {short ptr}*2)*3 long:5}", path(1, 0, 0), path(3, 3, 2)},
	} {
		if _, e := image.Spot(of(x.of), x.path); e != api.OK {
			t.Errorf("%s %v: %d", x.of, x.path, e)
		}
		for i, parts := range x.parts {
			wantError(t, of(x.of), x.path[:i], api.ErrPath)
			for _, step := range stepsBeside(parts) {
				wrong := slices.Clone(x.path)
				wrong[i] = step
				wantError(t, of(x.of), wrong, api.ErrPath)
				wantError(t, of(x.of), wrong[:i+1], api.ErrPath)
			}
		}
		for _, step := range append(stepsBeside(1), 0) {
			wantError(t, of(x.of), append(slices.Clone(x.path), step), api.ErrPath)
			wantError(t, of(x.of), append(slices.Clone(x.path), step, 0), api.ErrPath)
		}
		wantError(t, of(x.of), append(slices.Clone(x.path), make([]int, 1<<16)...), api.ErrPath)
	}
}

// P11.1: bit-fields of 0 bits, and those beside them.
func TestZeroBits(t *testing.T) {
	for _, s := range []string{"{char int:0 char}", "!{char int:0 char}", "(char int:0 char)", "!(char:1 long:0 char:8)"} {
		for _, step := range path(0, 2) {
			if spot, e := image.Spot(of("{char "+s+"*2}"), path(1, 1, step)); spot.Bits == 0 || e != api.OK {
				t.Errorf("%s: %+v, %d", s, spot, e)
			}
		}
		wantError(t, of(s), path(1), api.ErrPath)
		wantError(t, of(s), path(1, 0), api.ErrPath)
		wantError(t, of("{char "+s+"}"), path(1, 1), api.ErrPath)
		wantError(t, of(s+"*2"), path(1, 1), api.ErrPath)
	}
}

// P11.1 to P11.3: types that are not right, and those that are too big, ahead of all else that is wrong.
func TestWrongTypes(t *testing.T) {
	for _, s := range []string{
		"void", "int*0", "int*-1", "{}", "()", "{int:0}", "{_int:3}", "{int:33}", "{ptr:3}", "{_char}", "int@4", "!int", "{char}@3", "(char void)", "{char*2:4}",
		"int*2*2*2*2*2*2", "{{{{{{char}}}}}}", "((((((char))))))", "{char*65537 void}", "{char*65537 char*0}",
	} {
		wantWrong(t, of(s), api.ErrShape)
	}
	for _, s := range []string{"char*65537", "int*16385", "{char*65536 char}", "(char int*16385)", "char*256*257", "{char}*65537", "char*9223372036854775807", "{(char char*9223372036854775807)}"} {
		wantWrong(t, of(s), api.ErrBig)
	}
	wantWrong(t, api.Type{}, api.ErrShape)
	wantWrong(t, api.Type{Shape: api.SArray, N: 1}, api.ErrShape)
	wantWrong(t, api.Type{Shape: 1<<32 + 1, K: api.KInt}, api.ErrShape)
	twice := of("{char char}")
	twice.Fields[1].Name = twice.Fields[0].Name
	wantWrong(t, twice, api.ErrShape)
}

func wantWrong(t *testing.T, x api.Type, errno api.Errno) {
	t.Helper()
	for _, p := range [][]int{nil, {0}, {1}, {0, 0}, {-1}, {math.MaxInt}, {0, 0, 0, 0, 0}, make([]int, 9)} {
		wantError(t, x, p, errno)
		wantMakeError(t, x, []api.Set{set(1, 0), {Path: p}, set(1, 0)}, errno, 0)
	}
	wantMakeError(t, x, nil, errno, 0)
}

// P11.3: bytes that are too few or too many.
func TestOtherBytes(t *testing.T) {
	for _, x := range []struct {
		of   string
		path []int
		size int
	}{
		{"char", nil, 1}, {"ptr", nil, 8}, {"{char int:4 int:6}", path(0), 4}, {"!{char int short}", path(0), 7}, {"(char*5 int)", path(0, 0), 8}, {"char*65536", path(0), 65536}, {"{char}@64", path(0), 64},
	} {
		for _, n := range []int{0, 1, x.size - 1, x.size + 1, 2 * x.size, x.size + 256, 1 << 17} {
			if n != x.size {
				wantBytesError(t, of(x.of), strings.Repeat("b", n), x.path, api.ErrArg)
			}
		}
		wantGet(t, of(x.of), strings.Repeat("\x00", x.size), x.path, 0)
		wantPut(t, of(x.of), strings.Repeat("\x00", x.size), x.path, 1, "\x01"+strings.Repeat("\x00", x.size-1))
	}
}

// P11.3: numbers in bytes, by hand.
func TestGet(t *testing.T) {
	bits := of("{char int:4 int:6}")
	wantGet(t, bits, "\x01\x5f\x00\x00", path(0), 1)
	wantGet(t, bits, "\x01\x5f\x00\x00", path(1), -1)
	wantGet(t, bits, "\x01\x5f\x00\x00", path(2), 5)
	wantGet(t, bits, "\xff\x07\x02\xff", path(0), -1)
	wantGet(t, bits, "\xff\x08\x02\xff", path(1), -8)
	wantGet(t, bits, "\xff\x07\xfe\xff", path(1), 7)
	wantGet(t, bits, "\xff\x07\x02\xff", path(2), -32)
	wantGet(t, bits, "\x00\xf0\xfd\xff", path(2), 31)
	for k, want := range []int64{0, -1, 255, -1, 65535, -1, 4294967295, -1, -1} {
		if k > 0 {
			wantGet(t, of(kindWords[k]), someBytes(of(kindWords[k]), 255), nil, want)
			wantGet(t, of("{"+kindWords[k]+":1}"), someBytes(of(kindWords[k]), 1), path(0), []int64{-1, 1}[(k+1)%2])
		}
	}
	wantGet(t, of("long"), "\x00\x00\x00\x00\x00\x00\x00\x80", nil, math.MinInt64)
	wantGet(t, of("ulong"), "\x00\x00\x00\x00\x00\x00\x00\x80", nil, math.MinInt64)
	wantGet(t, of("ptr"), "\x08\x07\x06\x05\x04\x03\x02\x81", nil, -0x7efdfcfbfaf9f8f8)
	wantGet(t, of("{ulong:63}"), "\xff\xff\xff\xff\xff\xff\xff\xff", path(0), math.MaxInt64)
	wantGet(t, of("{long:63}"), "\xff\xff\xff\xff\xff\xff\xff\x7f", path(0), -1)
	wantGet(t, of("int"), "\x78\x56\x34\x12", nil, 0x12345678)
	wantGet(t, of("(int short*2 {char:1 char:7})"), "\x02\x01\xff\x80", path(1, 1), -32513)
	wantGet(t, of("(int short*2 {char:1 char:7})"), "\x82\x01\xff\x80", path(2, 1), -63)
	wantGet(t, of("!{uchar:7 long:64 uchar:1}"), "\x80\x00\x00\x00\x00\x00\x00\x00\x00", path(1), 1)
	wantGet(t, of("!{uchar:7 long:64 uchar:1}"), "\x7f\x00\x00\x00\x00\x00\x00\x00\x40", path(1), math.MinInt64)
	wantGet(t, of("!{uchar:7 long:64 uchar:1}"), "\x7f\xff\xff\xff\xff\xff\xff\xff\xff", path(1), -2)
}

// P11.3: numbers put into bytes, by hand; all other bits stay, in a union too.
func TestPut(t *testing.T) {
	bits := of("{char int:4 int:6}")
	wantPut(t, bits, "\x01\x5f\x00\x00", path(2), -3, "\x01\xdf\x03\x00")
	wantPut(t, bits, "\xff\xff\xff\xff", path(2), 0, "\xff\x0f\xfc\xff")
	wantPut(t, bits, "\xff\xff\xff\xff", path(1), 16, "\xff\xf0\xff\xff")
	wantPut(t, bits, "\x00\x00\x00\x00", path(1), 0x7fffffffffffffff, "\x00\x0f\x00\x00")
	wantPut(t, bits, "\xff\xff\xff\xff", path(0), math.MinInt64, "\x00\xff\xff\xff")
	wantPut(t, of("char"), "\x00", nil, 0x1234, "\x34")
	wantPut(t, of("uchar"), "\x00", nil, -2, "\xfe")
	wantPut(t, of("{char:1 char:7}"), "\xff", path(0), 2, "\xfe")
	wantPut(t, of("{int:32 uint:32}"), "\x00\x00\x00\x00\x00\x00\x00\x00", path(1), -1, "\x00\x00\x00\x00\xff\xff\xff\xff")
	wantPut(t, of("ptr"), "\x00\x00\x00\x00\x00\x00\x00\x00", nil, math.MinInt64+1, "\x01\x00\x00\x00\x00\x00\x00\x80")
	wantPut(t, of("(int char)"), "\xff\xff\xff\xff", path(1), 5, "\x05\xff\xff\xff")
	wantPut(t, of("({char short} (int char*2)*2)"), "\xff\xff\xff\xff\xff\xff\xff\xff", path(1, 1, 1, 1), 0, "\xff\xff\xff\xff\xff\x00\xff\xff")
	wantPut(t, of("!{uchar:7 long:64 uchar:1}"), "\xff\xff\xff\xff\xff\xff\xff\xff\xff", path(1), 0, "\x7f\x00\x00\x00\x00\x00\x00\x00\x80")
	wantPut(t, of("!{uchar:7 long:64 uchar:1}"), "\x00\x00\x00\x00\x00\x00\x00\x00\x00", path(1), -1, "\x80\xff\xff\xff\xff\xff\xff\xff\x7f")
}

// P11.2: without unions.
func TestMake(t *testing.T) {
	wantMake(t, "int", "00 00 00 00")
	wantMake(t, "ptr", "00 00 00 00 00 00 00 00")
	wantMake(t, "!{char int short}", "00 00 00 00 00 00 00")
	wantMake(t, "(char*3 short)", "00 00 00 00")
	wantMake(t, "int", "03 00 00 00", set(-1), set(3))
	wantMake(t, "char*3", "04 02 05", set(1, 0), set(2, 1), set(3, 0), set(5, 2), set(4, 0))
	wantMake(t, "{char int short}", "01 00 00 00 FE FF FF FF 34 12 00 00", set(0x101, 0), set(-2, 1), set(0x71234, 2))
	wantMake(t, "!{char int short}", "01 FE FF FF FF 34 12", set(0x71234, 2), set(-2, 1), set(1, 0))
	wantMake(t, "!{int:3 int:30 char}", "FD FF FF FF 01 07", set(5, 0), set(-1, 1), set(7, 2))
	wantMake(t, "!{int:3 int:30 char}", "02 00 00 00 01 00", set(1<<29, 1), set(2, 0))
	wantMake(t, "{int:3 _int:5 int:0 char}", "F5 00 00 00 80 00 00 00", set(5, 0), set(-2, 1), set(128, 3))
	wantMake(t, "{char:1 uchar:1}*2", "01 02", set(1, 0, 0), set(3, 1, 1), set(2, 1, 0))
	wantMake(t, "{ptr long:64}", "FF FF FF FF FF FF FF FF 00 00 00 00 00 00 00 80", set(-1, 0), set(math.MinInt64, 1))
	wantMake(t, "{{char short}*2 uchar}", "00 00 02 01 03 00 00 00 FF 00", set(258, 0, 0, 1), set(3, 0, 1, 0), set(-1, 1))
}

// P11.2: the first set whose path leads to none.
func TestMakeErrors(t *testing.T) {
	x := of("{char (int char)*2 int:0}")
	good, bad := set(1, 1, 1, 1), set(1, 2)
	for n := range 5 {
		for _, wrong := range []api.Set{bad, set(1), set(1, 1), set(1, 1, 2, 0), set(1, 1, 0, 0, 0), set(1, -1)} {
			l := append(slices.Repeat([]api.Set{good}, n), wrong)
			wantMakeError(t, x, l, api.ErrPath, n)
			wantMakeError(t, x, append(l, good, bad, good), api.ErrPath, n)
		}
	}
}

// P11.2: unions led through by one member and then by another one, and by the same one twice.
func TestUnions(t *testing.T) {
	wantMake(t, "(int char)", "06 00 00 00", set(258, 0), set(5, 1), set(6, 1))
	wantMake(t, "(int char)", "03 00 00 00", set(-1, 0), set(5, 1), set(3, 0))
	wantMake(t, "(short*2 int)", "01 00 02 00", set(1, 0, 0), set(2, 0, 1))
	wantMake(t, "(short*2 int)", "03 00 00 00", set(1, 0, 0), set(2, 0, 1), set(3, 1))
	wantMake(t, "(short*2 int)", "00 00 07 00", set(1, 0, 0), set(-1, 1), set(7, 0, 1))
	wantMake(t, "(short*2 int)", "01 00 07 00", set(-1, 1), set(1, 0, 0), set(7, 0, 1))
	wantMake(t, "(int:4 int:8)", "01 00 00 00", set(-1, 1), set(1, 0))
	wantMake(t, "(int:4 int:8)", "0F 00 00 00", set(3, 1), set(-1, 0))
	wantMake(t, "!(int:4 _int:12)", "0F 00", set(-1, 1), set(-1, 0))
	wantMake(t, "(char char)", "02", set(-1, 0), set(2, 1))
	wantMake(t, "(char*5 int)", "00 00 00 00 FF 00 00 00", set(-1, 1), set(-1, 0, 4))
	wantMake(t, "{(int char) int}", "01 00 00 00 FF FF FF FF", set(-1, 1), set(-1, 0, 0), set(1, 0, 1))
	wantMake(t, "!{char (int char) char}", "FF 01 00 00 00 FF", set(-1, 0), set(-1, 2), set(-1, 1, 0), set(1, 1, 1))
	wantMake(t, "!{char:4 (int char) char:4}", "0F 01 00 00 00 0F", set(-1, 0), set(-1, 2), set(-1, 1, 0), set(1, 1, 1))
}

// P11.2: outer unions and inner ones, and those that begin at the same bit.
func TestUnionsWithin(t *testing.T) {
	wantMake(t, "((int char) long)", "05 00 00 00 00 00 00 00", set(-1, 0, 0), set(5, 0, 1))
	wantMake(t, "((int char) long)", "05 00 00 00 00 00 00 00", set(-1, 1), set(5, 0, 1))
	wantMake(t, "((int char) long)", "05 00 00 00 00 00 00 00", set(-1, 0, 0), set(-1, 1), set(5, 0, 0))
	wantMake(t, "((int char) long)", "05 00 00 00 00 00 00 00", set(-1, 0, 0), set(-1, 1), set(5, 0, 1))
	wantMake(t, "((char short*2) long)", "01 00 02 00 00 00 00 00", set(1, 0, 1, 0), set(2, 0, 1, 1))
	wantMake(t, "(long (char short*2))", "01 00 02 00 00 00 00 00", set(1, 1, 1, 0), set(2, 1, 1, 1))
	wantMake(t, "(long (short*2 char))", "01 00 02 00 00 00 00 00", set(1, 1, 0, 0), set(2, 1, 0, 1))
	wantMake(t, "(((int char) short*2) long)", "00 00 02 00 00 00 00 00", set(-1, 0, 0, 0), set(1, 0, 0, 1), set(2, 0, 1, 1))
	wantMake(t, "({(int char) int} long)", "02 00 00 00 FF FF FF FF", set(-1, 0, 0, 0), set(-1, 0, 1), set(2, 0, 0, 1))
	wantMake(t, "({(int char) int} long)", "02 00 00 00 00 00 00 00", set(-1, 0, 0, 0), set(-1, 1), set(2, 0, 0, 1))
	wantMake(t, "({(int char) int} long)", "00 00 00 00 03 00 00 00", set(-1, 0, 0, 0), set(-1, 1), set(3, 0, 1))
	wantMake(t, "({(int char) int} {(short*2 char) int})", "00 00 05 00 07 00 00 00", set(-1, 0, 0, 0), set(-1, 0, 1), set(5, 1, 0, 0, 1), set(7, 1, 1))
}

// P11.2: unions within arrays, each place for itself.
func TestUnionsAtPlaces(t *testing.T) {
	wantMake(t, "(int char)*2", "06 00 00 00 05 00 00 00", set(-1, 0, 0), set(5, 1, 1), set(6, 0, 0))
	wantMake(t, "(short*2 int)*2", "01 00 02 00 05 00 00 00", set(1, 0, 0, 0), set(5, 1, 1), set(2, 0, 0, 1))
	wantMake(t, "(short*2 int)*2", "05 00 00 00 01 00 02 00", set(1, 1, 0, 0), set(5, 0, 1), set(2, 1, 0, 1))
	wantMake(t, "{char (int char)*2}", "00 00 00 00 05 00 00 00 FF FF FF FF", set(-1, 1, 0, 0), set(-1, 1, 1, 0), set(5, 1, 0, 1))
	wantMake(t, "{char (int char)*2}", "00 00 00 00 FF FF FF FF 05 00 00 00", set(-1, 1, 0, 0), set(-1, 1, 1, 0), set(5, 1, 1, 1))
	wantMake(t, "{(int char) (int char)}", "FF FF FF FF 05 00 00 00", set(-1, 0, 0), set(-1, 1, 0), set(5, 1, 1))
	wantMake(t, "((char*2 short)*2 int)", "01 00 02 02", set(1, 0, 0, 0, 0), set(0x0202, 0, 1, 1))
	wantMake(t, "(int char)*2*2", "FF FF FF FF FF FF FF FF 05 00 00 00 FF FF FF FF", set(-1, 0, 0, 0), set(-1, 0, 1, 0), set(-1, 1, 0, 0), set(-1, 1, 1, 0), set(5, 1, 0, 1))
}

// P11.4: of every kind each count of bits, at each bit of a byte, put and got.
func TestEveryWidth(t *testing.T) {
	values := []int64{0, 1, -1, 2, 5, -6, 127, 128, -128, 255, 0x5555555555555555, -0x5555555555555556, 1 << 31, -1 << 31, 1<<32 - 1, math.MaxInt64, math.MinInt64, math.MinInt64 + 1}
	for k, word := range kindWords[1:] {
		size, _, _ := shape.Size(of(word))
		for bits := 1; bits <= 8*int(size); bits++ {
			for ahead := range 8 {
				s := fmt.Sprintf("!{_uchar:%d %s:%d char}", ahead, word, bits)
				wantSpot(t, s, path(1), api.Spot{Bit: int64(ahead), Bits: int64(bits), K: k + 1})
				x := of(s)
				for i, v := range values {
					wantPutGot(t, x, someBytes(x, []byte{0, 255, 0xa5}[i%3]), path(1), v)
				}
			}
		}
	}
}

// wantPutGot holds what is put, and what is got of it, against the second reading.
func wantPutGot(t *testing.T, x api.Type, bytes string, p []int, v int64) {
	t.Helper()
	spot, _ := bareSpot(x, p)
	l := bareOpen(bytes)
	wantGet(t, x, bytes, p, l.read(spot))
	l.write(spot, v)
	wantPut(t, x, bytes, p, v, l.bytes())
	wantGet(t, x, l.bytes(), p, l.read(spot))
	if got, _ := image.Get(x, l.bytes(), p); fits(v, spot) != (got == v) {
		t.Errorf("%s %v: %d is put, %d is got", show(x), p, v, got)
	}
}

// fits tells whether a spot of a kind has the value.
func fits(v int64, s api.Spot) bool {
	least, end := new(big.Int), power(s.Bits)
	if s.K%2 == 1 { // the signed kinds have odd numbers
		least, end = new(big.Int).Neg(power(s.Bits-1)), power(s.Bits-1)
	}
	worth := big.NewInt(v)
	if s.K == api.KULong && s.Bits == 64 {
		worth.SetUint64(uint64(v))
	}
	return worth.Cmp(least) >= 0 && worth.Cmp(end) < 0
}

package shape

import (
	"iter"

	"burin/api"
	"burin/kind"
)

// checked is what a type takes, or Right's error.
func checked(t api.Type) (extent, api.Errno) {
	if !right(t, 1) {
		return extent{}, api.ErrShape
	}
	e := measure(t)
	if e.size > api.MaxSize { // a type has at least as many bytes as each one within it
		return extent{}, api.ErrBig
	}
	return e, api.OK
}

// right tells whether a type is that lies so deep, from 1 on; it goes no deeper than a type may be, whatever is within.
func right(t api.Type, deep int) bool {
	if deep > api.MaxDeep || !formed(t) {
		return false
	}
	ok := true
looking:
	for part := range within(t) {
		if !right(part, deep+1) {
			ok = false
			break looking
		}
	}
	return ok
}

// within yields the types that a type is made of.
func within(t api.Type) iter.Seq[api.Type] {
	return func(yield func(api.Type) bool) {
		for _, of := range t.Of {
			if !yield(of) {
				return
			}
		}
		for _, f := range t.Fields {
			if !yield(f.T) {
				return
			}
		}
	}
}

// formed tells whether a type is right if those within it are.
func formed(t api.Type) bool {
	noArray := t.N == 0 && len(t.Of) == 0
	noStruct := len(t.Fields) == 0 && !t.Packed && t.Align == 0
	switch t.Shape {
	case api.SInt:
		return noArray && noStruct && kind.Size(t.K) > 0
	case api.SPtr:
		return noArray && noStruct && t.K == 0
	case api.SArray:
		return noStruct && t.K == 0 && t.N >= 1 && len(t.Of) == 1
	case api.SStruct, api.SUnion:
		return noArray && t.K == 0 && aligns(t.Align) && fieldsFormed(t.Fields)
	}
	return false
}

// aligns tells whether a struct or union may be aligned so.
func aligns(n int64) bool {
	return n == 0 || n >= 1 && n <= api.MaxAlign && n&(n-1) == 0
}

func fieldsFormed(l []api.Field) bool {
	if len(l) < 1 || len(l) > api.MaxFields {
		return false
	}
	for _, f := range l {
		if !fieldFormed(f) {
			return false
		}
	}
	return named(l)
}

// fieldFormed tells whether a member is right if its type is.
func fieldFormed(f api.Field) bool {
	switch {
	case f.Bits < 0:
		return f.Name != ""
	case f.Bits == 0 && f.Name != "":
		return false
	}
	return f.T.Shape == api.SInt && f.Bits <= 8*kind.Size(f.T.K)
}

// named tells whether one member at least has a name, and none another one's.
func named(l []api.Field) bool {
	names := map[string]int{}
	for _, f := range l {
		names[f.Name]++
	}
	nameless := names[""]
	delete(names, "") // of those without a name there may be many
	return len(names) > 0 && len(names)+nameless == len(l)
}

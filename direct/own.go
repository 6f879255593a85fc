package direct

import (
	"strconv"
	"strings"

	"burin/api"
)

// Names that stand for where they stand.
const (
	ownLine = "__LINE__"
	ownFile = "__FILE__"
)

// isOwn tells whether a name may be no macro's, though it has a macro's form.
func isOwn(name string) bool {
	return name == ownLine || name == ownFile
}

// filled puts into tokens that were expanded, which are the caller's own, the lines and the files that they name.
func filled(l []api.Tok) []api.Tok {
	for i := range l {
		t := &l[i]
		switch {
		case t.Kind != api.TName:
		case t.S == ownLine:
			t.Kind, t.S = api.TNumber, strconv.Itoa(t.Line)
		case t.S == ownFile:
			t.Kind, t.S = api.TText, quote(t.File)
		}
	}
	return l
}

func quote(name string) string {
	var b strings.Builder
	b.WriteByte('"')
	for i := range len(name) {
		if name[i] == '"' || name[i] == '\\' {
			b.WriteByte('\\')
		}
		b.WriteByte(name[i])
	}
	b.WriteByte('"')
	return b.String()
}

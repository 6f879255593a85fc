package expand_test

import (
	"maps"
	"slices"
	"strings"

	"burin/api"
	"burin/token"
)

// This is a second reading of the chapter, by its words, as plainly as it goes: lists are copied, hidden names stand in maps, an error is a panic.

type bareTok struct {
	api.Tok
	hid map[string]bool
}

type bareFault struct {
	errno api.Errno
	line  int
}

type bareJob struct {
	macros map[string]api.Macro
	steps  int
}

func bareExpand(macros map[string]api.Macro, l []api.Tok) (told []api.Tok, errno api.Errno, line int) {
	defer func() {
		if f, ok := recover().(bareFault); ok {
			told, errno, line = nil, f.errno, f.line
		}
	}()
	if len(l) > 20000 {
		panic(bareFault{api.ErrMany, 0})
	}
	var work []bareTok
	for _, t := range l {
		work = append(work, bareTok{Tok: t})
	}
	for _, t := range (&bareJob{macros: macros}).expand(work) {
		told = append(told, t.Tok)
	}
	return told, api.OK, 0
}

func (j *bareJob) expand(l []bareTok) []bareTok {
	var told []bareTok
	for len(l) > 0 {
		t := l[0]
		m, is := j.macros[t.S]
		if t.Kind != api.TName || t.hid[t.S] || !is || m.Func && (len(l) == 1 || l[1].Kind != api.TPunct || l[1].S != "(") {
			told, l = append(told, t), l[1:]
			continue
		}
		hid := map[string]bool{m.Name: true}
		var args [][]bareTok
		behind := 1
		if m.Func {
			args, behind = bareArgs(m, t, l)
		}
		for name := range t.hid {
			if !m.Func || l[behind-1].hid[name] {
				hid[name] = true
			}
		}
		l = slices.Concat(j.replacement(m, t, args, hid), l[behind:])
	}
	return told
}

// bareArgs are the arguments of l[0], as many as there are parameters, and one; and where what is behind them begins.
func bareArgs(m api.Macro, t bareTok, l []bareTok) ([][]bareTok, int) {
	deep, commas, end := 0, []int{1}, 0
	for i := 1; i < len(l) && end == 0; i++ {
		if l[i].Kind != api.TPunct {
			continue
		}
		switch l[i].S {
		case "(":
			deep++
		case ")":
			deep--
			if deep == 0 {
				end = i
			}
		case ",":
			if deep == 1 && !(m.More && len(commas) > len(m.Params)) {
				commas = append(commas, i)
			}
		}
	}
	if end == 0 {
		panic(bareFault{api.ErrCall, t.Line})
	}
	commas = append(commas, end)
	var args [][]bareTok
	for i := range commas[1:] {
		args = append(args, l[commas[i]+1:commas[i+1]])
	}
	want := len(m.Params)
	switch {
	case m.More && want > 0 && len(args) == want:
		args = append(args, nil)
	case m.More:
		want++
	case want == 0 && len(args[0]) == 0:
		want = 1
	}
	if len(args) < want || !m.More && len(args) > want {
		panic(bareFault{api.ErrCall, t.Line})
	}
	return args, end + 1
}

func (j *bareJob) replacement(m api.Macro, t bareTok, args [][]bareTok, hid map[string]bool) []bareTok {
	var all []bareTok
	for i := 0; i < len(m.Body); {
		// What stands between two tokens without `##` is one chain.
		part, used := j.operand(m, t, args, i)
		i += used
		for i < len(m.Body) && m.Body[i].S == "##" {
			for m.Body[i].S == "##" {
				i++
			}
			next, used := j.operand(m, t, args, i)
			i += used
			part = barePaste(t, part, next)
		}
		all = append(all, part...)
	}
	for i := range all {
		hidden := maps.Clone(hid)
		maps.Copy(hidden, all[i].hid)
		all[i].hid = hidden
		all[i].File, all[i].Line = t.File, t.Line
		all[i].First = i == 0 && t.First
		if i == 0 {
			all[i].Space = t.Space
		}
	}
	if j.steps += 1 + len(all); j.steps > 20000 {
		panic(bareFault{api.ErrSteps, t.Line})
	}
	return all
}

// operand is what stands at a body's token i, and how many of the body's tokens that is.
func (j *bareJob) operand(m api.Macro, t bareTok, args [][]bareTok, i int) ([]bareTok, int) {
	b := m.Body[i]
	arg := func(name string) ([]bareTok, bool) {
		for k, p := range m.Params {
			if p == name {
				return args[k], true
			}
		}
		if name == "__VA_ARGS__" {
			return args[len(m.Params)], true
		}
		return nil, false
	}
	if m.Func && b.S == "#" {
		l, _ := arg(m.Body[i+1].S)
		return []bareTok{bareText(t, l, b.Space)}, 2
	}
	l, is := arg(b.S)
	if !is {
		return []bareTok{{Tok: b}}, 1
	}
	if i > 0 && m.Body[i-1].S == "##" || i+1 < len(m.Body) && m.Body[i+1].S == "##" {
		l = slices.Clone(l)
	} else {
		l = j.expand(l)
	}
	for i := range l {
		if i == 0 {
			l[i].Space = b.Space
		} else if l[i].First {
			l[i].Space = true
		}
	}
	return l, 1
}

func bareText(t bareTok, l []bareTok, space bool) bareTok {
	s := ""
	for i, x := range l {
		if i > 0 && (x.Space || x.First) {
			s += " "
		}
		for k := range len(x.S) {
			if (x.Kind == api.TText || x.Kind == api.TChar) && strings.Contains(`"\`, x.S[k:k+1]) {
				s += `\`
			}
			s += x.S[k : k+1]
		}
	}
	one, ok := token.One(`"` + s + `"`)
	if !ok || one.Kind != api.TText {
		panic(bareFault{api.ErrPaste, t.Line})
	}
	return bareTok{Tok: api.Tok{Kind: api.TText, S: one.S, Space: space}}
}

func barePaste(t bareTok, a, b []bareTok) []bareTok {
	if len(a) == 0 || len(b) == 0 {
		return slices.Concat(a, b)
	}
	last, next := a[len(a)-1], b[0]
	one, ok := token.One(last.S + next.S)
	if !ok {
		panic(bareFault{api.ErrPaste, t.Line})
	}
	hid := map[string]bool{}
	for name := range last.hid {
		if next.hid[name] {
			hid[name] = true
		}
	}
	pasted := bareTok{api.Tok{Kind: one.Kind, S: one.S, Space: last.Space}, hid}
	return slices.Concat(a[:len(a)-1], []bareTok{pasted}, b[1:])
}

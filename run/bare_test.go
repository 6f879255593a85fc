package run_test

import (
	"math/big"
	"slices"

	"burin/api"
	"burin/unit"
)

// A second reading of the chapter, built otherwise than the first one: without recursion, by a list of what is still to be done, which break, continue and return cut off; of the unit as it is said, without its kinds: values have theirs with them; and with numbers of any length instead of arith and kind.

// bareValue is a number and its kind.
type bareValue struct {
	v *big.Int
	k int
}

// bareItem is something that is still to be done, with what it is done to.
type bareItem struct {
	what string
	e    *api.Expr
	l    []api.Stmt
	f    *api.Func
}

type bareFrame struct {
	f      *api.Func
	kinds  map[string]int
	values map[string]bareValue
}

type bareMachine struct {
	u      api.Unit
	todo   []bareItem
	values []bareValue
	frames []bareFrame
	script []int64
	left   int
	out    api.Out
	ended  bool
}

func bareSize(k int) uint {
	return []uint{0, 8, 8, 16, 16, 32, 32, 64, 64}[k]
}

// bareEnds are the least and the greatest value of a kind.
func bareEnds(k int) (*big.Int, *big.Int) {
	one := big.NewInt(1)
	if k%2 == 0 {
		return new(big.Int), new(big.Int).Sub(new(big.Int).Lsh(one, bareSize(k)), one)
	}
	half := new(big.Int).Lsh(one, bareSize(k)-1)
	return new(big.Int).Neg(half), new(big.Int).Sub(half, one)
}

func bareLies(v *big.Int, k int) bool {
	least, most := bareEnds(k)
	return v.Cmp(least) >= 0 && v.Cmp(most) <= 0
}

func bareTo(v *big.Int, k int) bareValue {
	if bareLies(v, k) {
		return bareValue{v, k}
	}
	all := new(big.Int).Lsh(big.NewInt(1), bareSize(k))
	v = new(big.Int).Mod(v, all)
	if !bareLies(v, k) {
		v.Sub(v, all)
	}
	return bareValue{v, k}
}

// bareIn is a number as it is handed about; bareOut makes it one again.
func bareIn(v int64, k int) bareValue {
	if k == api.KULong {
		return bareValue{new(big.Int).SetUint64(uint64(v)), k}
	}
	return bareValue{big.NewInt(v), k}
}

func bareOut(v bareValue) int64 {
	return int64(new(big.Int).And(v.v, new(big.Int).SetUint64(1<<64-1)).Uint64())
}

func bareTruth(is bool) bareValue {
	if is {
		return bareValue{big.NewInt(1), api.KInt}
	}
	return bareValue{new(big.Int), api.KInt}
}

func (m *bareMachine) end(code api.Errno) {
	m.out.Code, m.ended = code, true
}

// step counts one, and tells whether there was one.
func (m *bareMachine) step() bool {
	m.left--
	if m.left < 0 {
		m.end(api.ErrLimit)
	}
	return m.left >= 0
}

func (m *bareMachine) later(l ...bareItem) {
	slices.Reverse(l)
	m.todo = append(m.todo, l...)
}

func (m *bareMachine) push(v bareValue) { m.values = append(m.values, v) }

func (m *bareMachine) pop() bareValue {
	last := len(m.values) - 1
	v := m.values[last]
	m.values = m.values[:last]
	return v
}

func (m *bareMachine) frame() bareFrame { return m.frames[len(m.frames)-1] }

// cutOff drops what is to be done down to the nearest thing of a sort, which stays.
func (m *bareMachine) cutOff(what string) {
	for m.todo[len(m.todo)-1].what != what {
		m.todo = m.todo[:len(m.todo)-1]
	}
}

func (m *bareMachine) function(name string) *api.Func {
	var found *api.Func
	for i := range m.u.L {
		f := &m.u.L[i]
		if f.Sig.Name == name && (found == nil || f.Has) {
			found = f
		}
	}
	return found
}

// kindOf is what kind an expression is of, without reckoning it.
func (m *bareMachine) kindOf(e *api.Expr) int {
	promoted := func(i int) int { return max(api.KInt, m.kindOf(&e.L[i])) }
	switch e.Is {
	case api.EVar:
		return m.frame().kinds[e.Name]
	case api.EInt, api.ECast:
		return e.K
	case api.ECall:
		return m.function(e.Name).Sig.Ret
	case api.ECond:
		return max(promoted(1), promoted(2))
	case api.EOne:
		if e.Op != api.ONot {
			return promoted(0)
		}
	case api.ETwo:
		switch e.Op {
		case api.OShl, api.OShr:
			return promoted(0)
		case api.OAdd, api.OSub, api.OMul, api.ODiv, api.OMod, api.OAnd, api.OXor, api.OOr:
			return max(promoted(0), promoted(1))
		}
	}
	return api.KInt
}

func (m *bareMachine) do(d bareItem) {
	switch d.what {
	case "statements":
		if len(d.l) > 0 && m.step() {
			if len(d.l) > 1 {
				m.later(bareItem{what: "statements", l: d.l[1:]})
			}
			m.statement(&d.l[0], d.l)
		}
	case "while":
		if m.step() {
			m.later(bareItem{what: "reckon", e: &d.l[0].E[0]}, bareItem{what: "turn", l: d.l})
		}
	case "turn":
		if m.pop().v.Sign() != 0 {
			m.later(bareItem{what: "statements", l: d.l[0].L}, bareItem{what: "while", l: d.l})
		}
	case "if":
		if m.pop().v.Sign() != 0 {
			m.later(bareItem{what: "statements", l: d.l[0].L})
		} else {
			m.later(bareItem{what: "statements", l: d.l[0].M})
		}
	case "set":
		f := m.frame()
		f.values[d.l[0].Name] = bareTo(m.pop().v, f.kinds[d.l[0].Name])
	case "drop":
		m.pop()
	case "return":
		m.back(m.pop())
	case "body's end":
		if m.frame().f.Sig.Ret != api.KVoid {
			m.end(api.ErrUndef)
			return
		}
		m.todo = append(m.todo, d)
		m.back(bareValue{new(big.Int), api.KULong})
	case "reckon":
		m.reckon(d.e)
	case "call":
		m.call(d.f)
	default:
		m.operate(d)
	}
}

// back goes back to the call, with a value of the kind that the function returns.
func (m *bareMachine) back(v bareValue) {
	m.cutOff("body's end")
	m.todo = m.todo[:len(m.todo)-1]
	if ret := m.frame().f.Sig.Ret; ret != api.KVoid {
		v = bareTo(v.v, ret)
	}
	m.push(v)
	m.frames = m.frames[:len(m.frames)-1]
}

// statement begins the first one of a list.
func (m *bareMachine) statement(s *api.Stmt, l []api.Stmt) {
	behind := map[int]string{api.XDecl: "set", api.XSet: "set", api.XCall: "drop", api.XIf: "if", api.XReturn: "return"}
	switch {
	case s.Is == api.XWhile:
		m.later(bareItem{what: "while", l: l})
	case s.Is == api.XBlock:
		m.later(bareItem{what: "statements", l: s.L})
	case s.Is == api.XBreak:
		m.cutOff("while")
		m.todo = m.todo[:len(m.todo)-1]
	case s.Is == api.XContinue:
		m.cutOff("while")
	case len(s.E) > 0:
		m.later(bareItem{what: "reckon", e: &s.E[0]}, bareItem{what: behind[s.Is], l: l})
	case s.Is == api.XReturn:
		m.back(bareValue{new(big.Int), api.KULong})
	default:
		m.frame().values[s.Name] = bareValue{}
	}
}

// reckon leaves an expression's value, once what it lays down to be done is done.
func (m *bareMachine) reckon(e *api.Expr) {
	part := func(i int) bareItem { return bareItem{what: "reckon", e: &e.L[i]} }
	switch e.Is {
	case api.EInt:
		m.push(bareIn(e.V, e.K))
	case api.EVar:
		v := m.frame().values[e.Name]
		if v.v == nil {
			m.end(api.ErrUndef)
			return
		}
		m.push(v)
	case api.EOne, api.ECast:
		m.later(part(0), bareItem{what: "one", e: e})
	case api.ETwo:
		m.later(part(0), part(1), bareItem{what: "two", e: e})
	case api.ECall:
		var l []bareItem
		for i := range e.L {
			l = append(l, part(i))
		}
		m.later(append(l, bareItem{what: "call", f: m.function(e.Name)})...)
	default:
		m.later(part(0), bareItem{what: "choose", e: e})
	}
}

func (m *bareMachine) operate(d bareItem) {
	part := func(i int) bareItem { return bareItem{what: "reckon", e: &d.e.L[i]} }
	switch d.what {
	case "one":
		m.one(d.e)
	case "two":
		m.two(d.e)
	case "truth":
		m.push(bareTruth(m.pop().v.Sign() != 0))
	case "usual":
		m.push(bareTo(m.pop().v, m.kindOf(d.e)))
	case "choose":
		is := m.pop().v.Sign() != 0
		switch {
		case d.e.Is == api.ECond && is:
			m.later(part(1), bareItem{what: "usual", e: d.e})
		case d.e.Is == api.ECond:
			m.later(part(2), bareItem{what: "usual", e: d.e})
		case is == (d.e.Is == api.EOr):
			m.push(bareTruth(is))
		default:
			m.later(part(1), bareItem{what: "truth"})
		}
	}
}

// made is what an operator made: what lies in a signed kind, or what is left of it in an unsigned one.
func (m *bareMachine) made(v *big.Int, k int) {
	if !bareLies(v, k) && k%2 == 1 {
		m.end(api.ErrUndef)
		return
	}
	m.push(bareTo(v, k))
}

func (m *bareMachine) one(e *api.Expr) {
	a := m.pop()
	v := new(big.Int)
	switch {
	case e.Is == api.ECast:
		m.push(bareTo(a.v, e.K))
	case e.Op == api.ONot:
		m.push(bareTruth(a.v.Sign() == 0))
	case e.Op == api.ONeg:
		m.made(v.Neg(a.v), max(api.KInt, a.k))
	default:
		m.push(bareTo(v.Not(a.v), max(api.KInt, a.k)))
	}
}

func (m *bareMachine) two(e *api.Expr) {
	b, a := m.pop(), m.pop()
	if e.Op == api.OShl || e.Op == api.OShr {
		m.shift(e.Op, a.v, max(api.KInt, a.k), b.v)
		return
	}
	k := max(api.KInt, a.k, b.k)
	x, y, v := bareTo(a.v, k).v, bareTo(b.v, k).v, new(big.Int)
	switch e.Op {
	case api.OAdd:
		m.made(v.Add(x, y), k)
	case api.OSub:
		m.made(v.Sub(x, y), k)
	case api.OMul:
		m.made(v.Mul(x, y), k)
	case api.ODiv, api.OMod:
		if y.Sign() == 0 || !bareLies(v.Quo(x, y), k) {
			m.end(api.ErrUndef)
			return
		}
		if e.Op == api.OMod {
			v.Rem(x, y)
		}
		m.made(v, k)
	case api.OAnd:
		m.made(v.And(x, y), k)
	case api.OXor:
		m.made(v.Xor(x, y), k)
	case api.OOr:
		m.made(v.Or(x, y), k)
	default:
		c := x.Cmp(y)
		m.push(bareTruth(map[int]bool{api.OLess: c < 0, api.OLeq: c <= 0, api.OEq: c == 0, api.ONeq: c != 0}[e.Op]))
	}
}

func (m *bareMachine) shift(op int, x *big.Int, k int, by *big.Int) {
	if by.Sign() < 0 || by.Cmp(big.NewInt(int64(bareSize(k)))) >= 0 || op == api.OShl && x.Sign() < 0 {
		m.end(api.ErrUndef)
		return
	}
	if op == api.OShl {
		m.made(new(big.Int).Lsh(x, uint(by.Uint64())), k)
		return
	}
	m.made(new(big.Int).Rsh(x, uint(by.Uint64())), k)
}

// call calls a function of the values that are told last.
func (m *bareMachine) call(f *api.Func) {
	args := make([]int64, len(f.Sig.Args))
	for i := len(args) - 1; i >= 0; i-- {
		args[i] = bareOut(bareTo(m.pop().v, f.Sig.Args[i].K))
	}
	if !m.step() {
		return
	}
	if !f.Has {
		back := bareValue{new(big.Int), api.KULong}
		if f.Sig.Ret != api.KVoid && len(m.script) > 0 {
			back, m.script = bareTo(big.NewInt(m.script[0]), f.Sig.Ret), m.script[1:]
		} else if f.Sig.Ret != api.KVoid {
			back = bareTo(back.v, f.Sig.Ret)
		}
		m.out.Events = append(m.out.Events, api.Event{Name: f.Sig.Name, Args: args, V: bareOut(back)})
		m.push(back)
		return
	}
	if len(m.frames) == 30 {
		m.end(api.ErrLimit)
		return
	}
	frame := bareFrame{f, map[string]int{}, map[string]bareValue{}}
	for i, v := range f.Sig.Args {
		frame.kinds[v.Name], frame.values[v.Name] = v.K, bareIn(args[i], v.K)
	}
	bareKinds(f.Body, frame.kinds)
	m.frames = append(m.frames, frame)
	m.later(bareItem{what: "statements", l: f.Body}, bareItem{what: "body's end"})
}

// bareKinds are the kinds of a body's variables, which have different names.
func bareKinds(l []api.Stmt, kinds map[string]int) {
	for _, s := range l {
		if s.Is == api.XDecl {
			kinds[s.Name] = s.K
		}
		bareKinds(s.L, kinds)
		bareKinds(s.M, kinds)
	}
}

// bareRun is Run.
func bareRun(u api.Unit, name string, args, script []int64, steps int) api.Out {
	if _, errno, _ := unit.Check(u); errno != api.OK {
		return api.Out{Code: errno}
	}
	m := bareMachine{u: u, script: script, left: steps}
	f := m.function(name)
	wrong := f == nil || !f.Has || len(args) != len(f.Sig.Args) || steps < 0 || steps > 1000000
	for i := 0; !wrong && i < len(args); i++ {
		k := f.Sig.Args[i].K
		wrong = k != api.KULong && !bareLies(big.NewInt(args[i]), k)
		m.push(bareIn(args[i], k))
	}
	if wrong {
		return api.Out{Code: api.ErrArg}
	}
	m.todo = []bareItem{{what: "call", f: f}}
	for len(m.todo) > 0 && !m.ended {
		d := m.todo[len(m.todo)-1]
		m.todo = m.todo[:len(m.todo)-1]
		m.do(d)
	}
	if !m.ended {
		m.out.V = bareOut(m.pop())
	}
	return m.out
}

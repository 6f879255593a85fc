package cond_test

import (
	"math/big"
	"regexp"
	"slices"
	"strings"

	"burin/api"
)

// A second reading of the chapter, for tests to hold the first one against: forms are regular expressions, a condition is parted at its loosest sign, and values are numbers without bounds.

var (
	bareNumberForm = regexp.MustCompile(`^(0[xX][0-9a-fA-F]+|0[0-7]*|[1-9][0-9]*)(|[uU](l|L|ll|LL)?|(l|L|ll|LL)[uU]?)$`)
	bareCharForm   = regexp.MustCompile(`^'([^'\\\n\r]|\\[ntvbrfa\\'"?]|\\[0-7]{1,3}|\\x[0-9a-fA-F]+)'$`)

	two63 = new(big.Int).Lsh(big.NewInt(1), 63)
	two64 = new(big.Int).Lsh(big.NewInt(1), 64)
)

// bareLevels are the signs between two operands, from the tightest to the loosest.
var bareLevels = [][]string{
	{"*", "/", "%"}, {"+", "-"}, {"<<", ">>"}, {"<", ">", "<=", ">="}, {"==", "!="}, {"&"}, {"^"}, {"|"}, {"&&"}, {"||"},
}

// bareValue is a number that its kind has.
type bareValue struct {
	n        *big.Int
	unsigned bool
}

func (v bareValue) bits() uint64 { return new(big.Int).Mod(v.n, two64).Uint64() }

// bareKept is a number modulo 2^64, as its kind has it.
func bareKept(n *big.Int, unsigned bool) *bareValue {
	n = new(big.Int).Mod(n, two64)
	if !unsigned && n.Cmp(two63) >= 0 {
		n.Sub(n, two64)
	}
	return &bareValue{n, unsigned}
}

func bareTruth(is bool) *bareValue {
	if is {
		return bareKept(big.NewInt(1), false)
	}
	return bareKept(new(big.Int), false)
}

// bareNumber is nil, if a text is no number.
func bareNumber(s string) (v *bareValue, isDecimal bool) {
	m := bareNumberForm.FindStringSubmatch(s)
	if m == nil {
		return nil, false
	}
	digits, base := m[1], 10
	switch {
	case strings.HasPrefix(strings.ToLower(digits), "0x"):
		digits, base = digits[2:], 16
	case digits[0] == '0':
		base = 8
	}
	n, ok := new(big.Int).SetString(digits, base)
	if !ok || n.Cmp(two64) >= 0 {
		return nil, false
	}
	unsigned := strings.ContainsAny(m[2], "uU") || n.Cmp(two63) >= 0 && base != 10
	return &bareValue{n, unsigned}, base == 10
}

// bareChar is nil, if a text is no character.
func bareChar(s string) *bareValue {
	var runes []rune
	for _, c := range []byte(s) {
		runes = append(runes, rune(c)) // a rune a byte, so that the form counts bytes
	}
	m := bareCharForm.FindStringSubmatch(string(runes))
	if m == nil {
		return nil
	}
	inner := []rune(m[1])
	n := big.NewInt(int64(inner[0]))
	if len(inner) > 1 {
		code, base := string(inner[1:]), 8
		if i := strings.Index("ntvbrfa\\'\"?", code); i >= 0 {
			n = big.NewInt(int64("\n\t\v\b\r\f\a\\'\"?"[i]))
		} else {
			if code[0] == 'x' {
				code, base = code[1:], 16
			}
			n, _ = new(big.Int).SetString(code, base)
		}
	}
	if n.Cmp(big.NewInt(255)) > 0 {
		return nil
	}
	if n.Cmp(big.NewInt(128)) >= 0 {
		n.Sub(n, big.NewInt(256))
	}
	return &bareValue{n, false}
}

// bareJob is one condition: was something undefined where it counts?
type bareJob struct{ undefined bool }

// bareEval is nil, if tokens are no condition, or one that is undefined.
func bareEval(l []api.Tok) *bareValue {
	var j bareJob
	v := j.eval(l, true)
	if j.undefined {
		return nil
	}
	return v
}

func bareIs(t api.Tok, signs ...string) bool {
	return t.Kind == api.TPunct && slices.Contains(signs, t.S)
}

// bareOuter are the places that are in no brackets; those of brackets themselves are none. False: brackets do not belong together.
func bareOuter(l []api.Tok) ([]int, bool) {
	var places []int
	deep := 0
	for i, t := range l {
		switch {
		case bareIs(t, "("):
			deep++
		case bareIs(t, ")"):
			if deep--; deep < 0 {
				return nil, false
			}
		case deep == 0:
			places = append(places, i)
		}
	}
	return places, deep == 0
}

func (j *bareJob) eval(l []api.Tok, counts bool) *bareValue {
	outer, ok := bareOuter(l)
	if !ok || len(l) == 0 {
		return nil
	}
	if ask := slices.IndexFunc(outer, func(i int) bool { return bareIs(l[i], "?") }); ask >= 0 {
		return j.choice(l, outer[ask:], counts)
	}
	for _, signs := range slices.Backward(bareLevels) {
		for _, i := range slices.Backward(outer) {
			if bareIs(l[i], signs...) && i > 0 && (l[i-1].Kind != api.TPunct || bareIs(l[i-1], ")")) {
				return j.two(l[i].S, l[:i], l[i+1:], counts)
			}
		}
	}
	switch {
	case bareIs(l[0], "+", "-", "~", "!"):
		return bareOne(l[0].S, j.eval(l[1:], counts))
	case bareIs(l[0], "("):
		if len(outer) > 0 || !bareIs(l[len(l)-1], ")") {
			return nil
		}
		if inner, ok := bareOuter(l[1 : len(l)-1]); !ok || len(inner) == 0 && len(l) == 2 {
			return nil
		}
		return j.eval(l[1:len(l)-1], counts)
	case len(l) > 1:
		return nil
	}
	return bareOperand(l[0])
}

func bareOperand(t api.Tok) *bareValue {
	switch t.Kind {
	case api.TName:
		return bareTruth(false)
	case api.TChar:
		return bareChar(t.S)
	case api.TNumber:
		v, isDecimal := bareNumber(t.S)
		if v != nil && isDecimal && !v.unsigned && v.n.Cmp(two63) >= 0 {
			return nil
		}
		return v
	}
	return nil
}

// choice is of tokens whose first outer `?` is the first of those places.
func (j *bareJob) choice(l []api.Tok, outer []int, counts bool) *bareValue {
	deep, part := 0, -1
	for _, i := range outer {
		if bareIs(l[i], "?") {
			deep++
		}
		if bareIs(l[i], ":") {
			deep--
		}
		if deep == 0 {
			part = i
			break
		}
	}
	if part < 0 {
		return nil
	}
	a := j.eval(l[:outer[0]], counts)
	if a == nil {
		return nil
	}
	is := a.n.Sign() != 0
	b, c := j.eval(l[outer[0]+1:part], counts && is), j.eval(l[part+1:], counts && !is)
	if b == nil || c == nil {
		return nil
	}
	if unsigned := b.unsigned || c.unsigned; is {
		return bareKept(b.n, unsigned)
	} else {
		return bareKept(c.n, unsigned)
	}
}

func bareOne(sign string, v *bareValue) *bareValue {
	if v == nil {
		return nil
	}
	switch sign {
	case "!":
		return bareTruth(v.n.Sign() == 0)
	case "-":
		return bareKept(new(big.Int).Neg(v.n), v.unsigned)
	case "~":
		return bareKept(new(big.Int).Not(v.n), v.unsigned)
	}
	return v
}

func (j *bareJob) two(sign string, left, right []api.Tok, counts bool) *bareValue {
	a := j.eval(left, counts)
	if a == nil {
		return nil
	}
	is := a.n.Sign() != 0
	b := j.eval(right, counts && !(sign == "&&" && !is) && !(sign == "||" && is))
	switch {
	case b == nil:
		return nil
	case sign == "&&":
		return bareTruth(is && b.n.Sign() != 0)
	case sign == "||":
		return bareTruth(is || b.n.Sign() != 0)
	case sign == "<<", sign == ">>":
		return j.shift(sign, a, b, counts)
	}
	unsigned := a.unsigned || b.unsigned
	return j.alike(sign, bareKept(a.n, unsigned).n, bareKept(b.n, unsigned).n, unsigned, counts)
}

func (j *bareJob) shift(sign string, a, b *bareValue, counts bool) *bareValue {
	if b.n.Sign() < 0 || b.n.Cmp(big.NewInt(64)) >= 0 {
		j.undefined = j.undefined || counts
		return bareKept(new(big.Int), a.unsigned)
	}
	if by := uint(b.n.Uint64()); sign == "<<" {
		return bareKept(new(big.Int).Lsh(a.n, by), a.unsigned)
	} else {
		return bareKept(new(big.Int).Rsh(a.n, by), a.unsigned)
	}
}

// alike is of two operands that are of one kind.
func (j *bareJob) alike(sign string, a, b *big.Int, unsigned, counts bool) *bareValue {
	n := new(big.Int)
	switch sign {
	case "<":
		return bareTruth(a.Cmp(b) < 0)
	case ">":
		return bareTruth(a.Cmp(b) > 0)
	case "<=":
		return bareTruth(a.Cmp(b) <= 0)
	case ">=":
		return bareTruth(a.Cmp(b) >= 0)
	case "==":
		return bareTruth(a.Cmp(b) == 0)
	case "!=":
		return bareTruth(a.Cmp(b) != 0)
	case "*":
		n.Mul(a, b)
	case "+":
		n.Add(a, b)
	case "-":
		n.Sub(a, b)
	case "&":
		n.And(a, b)
	case "^":
		n.Xor(a, b)
	case "|":
		n.Or(a, b)
	default:
		if b.Sign() == 0 {
			j.undefined = j.undefined || counts
		} else if sign == "/" {
			n.Quo(a, b)
		} else {
			n.Rem(a, b)
		}
	}
	return bareKept(n, unsigned)
}

package kind_test

import (
	"math/big"
	"slices"
	"strings"

	"burin/api"
)

// A second reading of the chapter, for tests to hold the first one against: kinds are rows of a table, values have no bounds, and what words may say is written out.

type bareKind struct {
	name   string
	bits   uint
	signed bool
	said   []string // one order of each list of words that says it
}

var bareKinds = map[int]bareKind{
	api.KChar:   {"char", 8, true, []string{"char", "signed char"}},
	api.KUChar:  {"unsigned char", 8, false, []string{"unsigned char"}},
	api.KShort:  {"short", 16, true, []string{"short", "short int", "signed short", "signed short int"}},
	api.KUShort: {"unsigned short", 16, false, []string{"unsigned short", "unsigned short int"}},
	api.KInt:    {"int", 32, true, []string{"int", "signed", "signed int"}},
	api.KUInt:   {"unsigned int", 32, false, []string{"unsigned", "unsigned int"}},
	api.KLong: {"long", 64, true, []string{
		"long", "long int", "signed long", "signed long int", "long long", "long long int", "signed long long", "signed long long int",
	}},
	api.KULong: {"unsigned long", 64, false, []string{
		"unsigned long", "unsigned long int", "unsigned long long", "unsigned long long int",
	}},
}

// bareUsual has a row and a column of each kind, in the order of their numbers.
const bareUsual = `
i i i i i u l U
i i i i i u l U
i i i i i u l U
i i i i i u l U
i i i i i u l U
u u u u u u l U
l l l l l l l U
U U U U U U U U`

var bareLetters = map[string]int{"i": api.KInt, "u": api.KUInt, "l": api.KLong, "U": api.KULong}

func power(n uint) *big.Int { return new(big.Int).Lsh(big.NewInt(1), n) }

// ends are a kind's least and greatest value.
func (b bareKind) ends() (*big.Int, *big.Int) {
	low, high := new(big.Int), power(b.bits)
	if b.signed {
		high = power(b.bits - 1)
		low.Neg(high)
	}
	return low, high.Sub(high, big.NewInt(1))
}

func (b bareKind) isULong() bool { return b.bits == 64 && !b.signed }

// handed is a value as it is handed about, worth what such a number stands for.
func (b bareKind) handed(v *big.Int) int64 {
	if b.isULong() {
		return int64(v.Uint64())
	}
	return v.Int64()
}

func (b bareKind) worth(v int64) *big.Int {
	if b.isULong() {
		return new(big.Int).SetUint64(uint64(v))
	}
	return big.NewInt(v)
}

func (b bareKind) lies(v int64) bool {
	low, high := b.ends()
	n := b.worth(v)
	return low.Cmp(n) <= 0 && n.Cmp(high) <= 0
}

func (b bareKind) to(v int64) int64 {
	n := new(big.Int).Mod(big.NewInt(v), power(b.bits))
	if _, high := b.ends(); n.Cmp(high) > 0 {
		n.Sub(n, power(b.bits))
	}
	return b.handed(n)
}

func sorted(words []string) []string { return slices.Sorted(slices.Values(words)) }

// bareOf is the kind that words say, or 0.
func bareOf(words []string) int {
	words = sorted(words)
	for k, b := range bareKinds {
		for _, said := range b.said {
			if slices.Equal(words, sorted(strings.Fields(said))) {
				return k
			}
		}
	}
	return 0
}

func bareUsualOf(a, b int) int {
	rows := strings.Split(strings.TrimSpace(bareUsual), "\n")
	return bareLetters[strings.Fields(rows[a-1])[b-1]]
}

// Package num is layer 1, the edge cases of float64: see shared/doc/01-num.md.
package num

import (
	"cmp"
	"math"
	"slices"
	"strconv"
	"strings"

	"tocsin/api"
)

// The kinds of numbers, in order.
const (
	minusInfinity = 1 + iota
	minusNormal
	minusSubnormal
	minusZero
	plusZero
	plusSubnormal
	plusNormal
	plusInfinity
	noNumber
)

// Bits of float64. With the sign left out, greater bits are a greater magnitude, and those above infinity are NaNs.
const (
	signBit     = 1 << 63
	leastNormal = 0x0010000000000000
	infinity    = 0x7FF0000000000000
	oneNaN      = 0x7FF8000000000001
	digits      = 16
)

// Kind is a number's kind.
func Kind(x float64) int {
	bits := math.Float64bits(x)
	magnitude := bits &^ signBit
	below := bits != magnitude
	switch {
	case magnitude > infinity:
		return noNumber
	case magnitude == infinity:
		return choose(below, minusInfinity, plusInfinity)
	case magnitude >= leastNormal:
		return choose(below, minusNormal, plusNormal)
	case magnitude > 0:
		return choose(below, minusSubnormal, plusSubnormal)
	}
	return choose(below, minusZero, plusZero)
}

func choose(first bool, a, b int) int {
	if first {
		return a
	}
	return b
}

// One is a number, or the one NaN.
func One(x float64) float64 {
	if Kind(x) == noNumber {
		return math.Float64frombits(oneNaN)
	}
	return x
}

// Compare says which number stands ahead.
func Compare(a, b float64) int {
	if order := cmp.Compare(Kind(a), Kind(b)); order != 0 {
		return order
	}
	switch {
	case a < b:
		return -1
	case a > b:
		return 1
	}
	return 0
}

// Least is the first in order.
func Least(l []float64) float64 { return outermost(l, -1) }

// Greatest is the last in order.
func Greatest(l []float64) float64 { return outermost(l, 1) }

// outermost is the number of l that Compare puts on that side of all others.
func outermost(l []float64, side int) float64 {
	found := math.Float64frombits(oneNaN)
	for _, x := range l {
		if Kind(x) == noNumber {
			continue
		}
		if Kind(found) == noNumber || Compare(x, found) == side {
			found = x
		}
	}
	return found
}

// Sort puts numbers in order.
func Sort(l []float64) []float64 {
	sorted := make([]float64, len(l))
	for i, x := range l {
		sorted[i] = One(x)
	}
	slices.SortFunc(sorted, Compare)
	return sorted
}

// Sum is the sum, from the front.
func Sum(l []float64) float64 {
	sum := 0.0
	for _, x := range l {
		sum += x
	}
	return One(sum)
}

// Times is the product.
func Times(a, b float64) float64 {
	// The conversion keeps the product from being fused with a caller's addition, which would leave out its rounding.
	return One(float64(a * b))
}

// Int is the nearest whole number.
func Int(x float64) (int64, api.Errno) {
	if Kind(x) == noNumber {
		return 0, api.ErrNaN
	}
	whole := math.RoundToEven(x)
	// 2^63 - 1 is no float64, so the upper bound is held against 2^63.
	if whole < -1<<63 || whole >= 1<<63 {
		return 0, api.ErrRange
	}
	return int64(whole), api.OK
}

// Print is a number's bits.
func Print(x float64) string {
	s := strconv.FormatUint(math.Float64bits(One(x)), 16)
	return strings.Repeat("0", digits-len(s)) + s
}

// Parse reads a number's bits.
func Parse(s string) (float64, api.Errno) {
	if len(s) != digits {
		return 0, api.ErrForm
	}
	bits, err := strconv.ParseUint(s, 16, 64)
	if err != nil {
		return 0, api.ErrForm
	}
	x := math.Float64frombits(bits)
	// This refuses what ParseUint reads and Print never writes: capital digits, and the bits of other NaNs.
	if Print(x) != s {
		return 0, api.ErrForm
	}
	return x, api.OK
}

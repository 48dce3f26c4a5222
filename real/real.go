// Package real is floating-point numbers with a total order: see DOC.md, chapter 1.
package real

import (
	"cmp"
	"math"
	"strconv"
	"strings"
)

const (
	signBit  = 1 << 63
	nanBits  = 0x7ff8000000000000 // not the bits of math.NaN(), which end in 1
	hexWidth = 16
)

// Norm returns the canonical NaN if f is any NaN, and f otherwise.
func Norm(f float64) float64 {
	if math.IsNaN(f) {
		return math.Float64frombits(nanBits)
	}
	return f
}

// Key returns the place of Norm(f) in the total order.
func Key(f float64) uint64 {
	b := math.Float64bits(Norm(f))
	if b&signBit != 0 {
		return ^b
	}
	return b | signBit
}

// Of returns the number with the Key k and true, or 0 and false if there is none.
func Of(k uint64) (float64, bool) {
	f := math.Float64frombits(unkey(k))
	// Only a NaN other than the canonical one has another Key than the one it was made from.
	if Key(f) != k {
		return 0, false
	}
	return f, true
}

// unkey undoes what Key does to the bits of a number.
func unkey(k uint64) uint64 {
	if k&signBit != 0 {
		return k &^ signBit
	}
	return ^k
}

// Cmp returns -1, 0 or 1 as the Key of a is less than, equal to or greater than the Key of b.
func Cmp(a, b float64) int {
	return cmp.Compare(Key(a), Key(b))
}

// Sum adds the numbers to 0 from left to right and returns Norm of the result.
func Sum(l ...float64) float64 {
	s := 0.0
	for _, f := range l {
		s += f
	}
	return Norm(s)
}

// Weight reports whether f is a valid weight: not a NaN and not less than 0.
func Weight(f float64) bool {
	// No comparison with a NaN holds, and -0 is equal to 0 here.
	return f >= 0
}

// Text returns Key(f) as sixteen lower-case hexadecimal digits.
func Text(f float64) string {
	s := strconv.FormatUint(Key(f), 16)
	return strings.Repeat("0", hexWidth-len(s)) + s
}

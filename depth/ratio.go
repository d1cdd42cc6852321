package depth

import "math"

// Ratio answers out divided by in as floats, so that a nought below is no panic but an infinity or a NaN.
func Ratio(out, in int) float64 { return float64(out) / float64(in) }

// Better tells whether x is the better ratio: one that counts ahead of one that doesn't, and of two that count the less.
func Better(x, y float64) bool {
	return counts(x) && (!counts(y) || x < y)
}

// counts tells whether x is a number not below 0. The sign is asked by its bit, since -0 < 0 is false.
func counts(x float64) bool {
	return !math.IsNaN(x) && !math.Signbit(x)
}

package depth

import (
	"math"

	"spillway/api"
)

// The widths that a plan may have.
const (
	narrow = 16
	wide   = 32
)

// greatest is the greatest depth up to the length that is safe, or 0. A depth
// below one that isn't safe may be so, and one below that not again, as blocks
// begin elsewhere: so they are gone through one by one, and from above, where
// the first that is safe is the greatest.
func greatest(length int, safe func(depth int) bool) int {
	depth := length
search:
	if depth > 0 && !safe(depth) {
		depth--
		goto search
	}
	return depth
}

// lengthOf is the length of an op that reduces, of a well-formed model: layer 8
// has counted its weights, as many for each channel as its sums have terms, and
// its biases, one for each channel.
func lengthOf(op api.Op) int {
	if op.Kind == api.Average {
		return op.Win.KH * op.Win.KW
	}
	return len(op.Weights) / len(op.Bias)
}

func int16s() api.Span { return api.Span{Lo: math.MinInt16, Hi: math.MaxInt16} }

func int32s() api.Span { return api.Span{Lo: math.MinInt32, Hi: math.MaxInt32} }

// within: do both ends of a span lie in the register's?
func within(register, s api.Span) bool {
	return register.Lo <= s.Lo && s.Hi <= register.Hi
}

// Package num is layer 1: see shared/doc/01-num.md.
package num

import "spillway/api"

// Narrow: the types whose numbers are of 8, 16 or 32 bits.
type Narrow interface {
	~int8 | ~int16 | ~int32
}

// Add: the sum, or ErrOver.
func Add(a, b int64) (int64, api.Errno) {
	sum := a + b
	// A sum wraps only where both operands have one sign; it then has the other.
	if (a < 0) == (b < 0) && (sum < 0) != (a < 0) {
		return 0, api.ErrOver
	}
	return sum, api.OK
}

// Sub: the difference, or ErrOver.
func Sub(a, b int64) (int64, api.Errno) {
	diff := a - b
	// A difference wraps only where the signs differ; it then hasn't the sign of a.
	if (a < 0) != (b < 0) && (diff < 0) != (a < 0) {
		return 0, api.ErrOver
	}
	return diff, api.OK
}

// Mul: the product, or ErrOver.
func Mul(a, b int64) (int64, api.Errno) {
	if a == 0 {
		return 0, api.OK
	}
	// A division by -1 may itself wrap, so that it couldn't tell.
	if a == -1 {
		return Sub(0, b)
	}
	product := a * b
	if product/a != b {
		return 0, api.ErrOver
	}
	return product, api.OK
}

// Fits: is x a number of T?
func Fits[T Narrow](x int64) bool {
	return int64(T(x)) == x
}

// Sat: the number of T that is nearest to x.
func Sat[T Narrow](x int64) T {
	if Fits[T](x) {
		return T(x)
	}
	if x < 0 {
		return least[T]()
	}
	return greatest[T]()
}

// Wrap: x modulo 2^n, as a number of T.
func Wrap[T Narrow](x int64) T {
	return T(x)
}

// Clamp: x, brought to lo and hi.
func Clamp(x, lo, hi int64) int64 {
	// hi is asked first: where lo is above hi, an x above both is hi, not lo.
	if x > hi {
		return hi
	}
	if x < lo {
		return lo
	}
	return x
}

// least is the low end of T's numbers. It is found by doubling, since a constant
// that fits 32 bits can't be written as a number of every T.
func least[T Narrow]() T {
	low := T(-1)
	for low*2 < 0 {
		low *= 2
	}
	return low
}

// greatest is the high end of T's numbers.
func greatest[T Narrow]() T {
	return -(least[T]() + 1)
}

package witness

import (
	"math"

	"spillway/api"
)

// leak is the first that there is, position by position; of a depth that isn't
// safe there is one.
func (c *channel) leak(depth int) (api.Leak, bool) {
	for at := range c.positions {
		row, _ := c.terms(at)
		for _, to := range []way{up, down} {
			from, upto := c.broken(row, depth, to)
			if from < upto {
				return api.Leak{At: at, From: from, Upto: upto, X: c.input(row[from:upto], to)}, true
			}
		}
	}
	return api.Leak{}, false
}

// broken are the terms from the one to ahead of the other with which a register
// of 16 bits that begins anew every so many terms doesn't hold any more what it
// ought to, all of them driven that way: a single product, or the first terms of
// a block. Where it bears the whole sum, there are none.
func (c *channel) broken(row []api.Term, depth int, to way) (from, upto int) {
	sum := int64(0)
	for i, term := range row {
		if i%depth == 0 {
			from, sum = i, 0
		}
		product := c.product(term, to)
		sum += product
		if !isInt16(product) {
			return i, i + 1
		}
		if !isInt16(sum) {
			return from, i + 1
		}
	}
	return 0, 0
}

func isInt16(n int64) bool { return math.MinInt16 <= n && n <= math.MaxInt16 }

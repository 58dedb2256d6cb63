package witness

import (
	"spillway/api"
	"spillway/depth"
	"spillway/terms"
)

// bears: does a register of 16 bits bear blocks of so many terms? It is asked
// here, as Break has an argument of the layer's name.
func bears(m api.Model, op, ch int, s api.Span, many int) (bool, api.Errno) {
	return depth.Safe(m, op, ch, s, many)
}

// channel is one of an op that reduces, whose tensor A has numbers of a span of
// values. It is made where a layer below has found no error in the model, the
// op, the channel and the span, so that none of the calls below has one; and no
// sum is beyond 512 * 2^15 * 2^7 and a bias.
type channel struct {
	number    int
	positions int
	numbers   api.Span
	// alone is a model of the op only, with tensor A as its input: layer 10 asks
	// at each position whether its model is well-formed, which would take long
	// with all the other ops in it, and the terms are the same.
	alone api.Model
}

func channelOf(m api.Model, op, ch int, s api.Span) channel {
	reduction := m.Ops[op-1]
	alone := api.Model{In: shapeOf(m, reduction.A)}
	reduction.A = 0
	alone.Ops = []api.Op{reduction}
	positions, _ := terms.Positions(alone, 1)
	return channel{number: ch, positions: positions, numbers: s, alone: alone}
}

// terms are those of the sum at a position, in order, and its bias.
func (c *channel) terms(at int) ([]api.Term, int64) {
	row, bias, _ := terms.Of(c.alone, 1, c.number, at)
	return row, bias
}

// way is where sums are driven to. No place of tensor A is in two terms of one
// sum, so that each number can be chosen for its own term.
type way bool

const (
	down way = false
	up   way = true
)

// driven is the number that stands at a term's place, if its product is driven
// that way.
func (c *channel) driven(term api.Term, to way) int64 {
	if term.At < 0 {
		return int64(c.alone.Ops[0].Pad)
	}
	if (term.W > 0) == bool(to) {
		return c.numbers.Hi
	}
	return c.numbers.Lo
}

func (c *channel) product(term api.Term, to way) int64 {
	return int64(term.W) * c.driven(term, to)
}

// input is a tensor A that drives these terms that way. The numbers of the other
// places play no part, and are as near to 0 as they can be.
func (c *channel) input(row []api.Term, to way) []int8 {
	in := c.alone.In
	x := make([]int8, in.H*in.W*in.C)
	rest := int8(min(max(0, c.numbers.Lo), c.numbers.Hi))
	for place := range x {
		x[place] = rest
	}
	for _, term := range row {
		if term.At >= 0 {
			x[term.At] = int8(c.driven(term, to))
		}
	}
	return x
}

// reaching is a position at which the sum, driven that way, comes to this end of
// what layer 13 says of all positions, and numbers that drive it there.
func (c *channel) reaching(end int64, to way) api.Witness {
	for at := range c.positions {
		row, sum := c.terms(at)
		for _, term := range row {
			sum += c.product(term, to)
		}
		if sum == end {
			return api.Witness{At: at, X: c.input(row, to)}
		}
	}
	return api.Witness{}
}

package bound

import (
	"iter"

	"spillway/api"
	"spillway/model"
	"spillway/span"
	"spillway/terms"
)

// channel is one of an op that reduces, whose tensor A has numbers of a span.
// It comes of a well-formed model, so that none of the calls below has an
// error: every number of it and of the op is at hand, and no sum is beyond
// 512 * 2^15 * 2^7 and a bias.
type channel struct {
	number, positions int
	// first are the terms at position 0, with which the channel is found.
	first            []api.Term
	bias             int64
	numbers, padding api.Span
	// alone is a model of the op only, with tensor A as its input: layer 10
	// asks at each position whether its model is well-formed, which would take
	// long with all the other ops in it, and the terms are the same.
	alone api.Model
}

func find(m api.Model, op, ch int, s api.Span) (channel, api.Errno) {
	shapes, fault := model.Shapes(m)
	if fault.Err != api.OK {
		return channel{}, fault.Err
	}
	if op < 1 || op > len(m.Ops) {
		return channel{}, api.ErrPlace
	}
	reduction := m.Ops[op-1]
	alone := api.Model{In: shapes[reduction.A]}
	// An op that doesn't reduce may read a second tensor, of the same shape.
	reduction.A, reduction.B = 0, 0
	alone.Ops = []api.Op{reduction}
	first, bias, e := terms.Of(alone, 1, ch, 0)
	if e != api.OK {
		return channel{}, e
	}
	if !ofValues(s) {
		return channel{}, api.ErrSpan
	}
	return channel{
		number:    ch,
		positions: shapes[op].H * shapes[op].W,
		first:     first,
		bias:      bias,
		numbers:   s,
		padding:   one(int64(reduction.Pad)),
		alone:     alone,
	}, api.OK
}

func (c *channel) length() int { return len(c.first) }

const (
	leastValue    = -128
	greatestValue = 127
)

// ofValues: is it a span of values?
func ofValues(s api.Span) bool {
	return span.Holds(api.Span{Lo: leastValue, Hi: greatestValue}, s)
}

// hull is the least span that holds all that it has taken.
type hull struct {
	all   api.Span
	begun bool
}

func (h *hull) take(s api.Span) {
	if !h.begun {
		h.all, h.begun = s, true
	}
	h.all, _ = span.Hull(h.all, s)
}

// gathered is the hull of what is taken from the ends of the terms at each
// position. Nothing is listed on the way: a search for the best depth asks for
// as many hulls as a sum has terms.
func (c *channel) gathered(from func(ends []api.Span, h *hull)) api.Span {
	var h hull
	for ends := range c.rows() {
		from(ends, &h)
	}
	return h.all
}

// rows gives the ends of the terms, position by position, all in one list, which
// is of no use any more when the next ones come.
func (c *channel) rows() iter.Seq[[]api.Span] {
	return func(yield func([]api.Span) bool) {
		ends := make([]api.Span, c.length())
		for at := range c.positions {
			for i, term := range c.terms(at) {
				ends[i] = c.product(term)
			}
			if !yield(ends) {
				return
			}
		}
	}
}

// terms are those at a position, in order.
func (c *channel) terms(at int) []api.Term {
	if at == 0 {
		return c.first
	}
	row, _, _ := terms.Of(c.alone, 1, c.number, at)
	return row
}

// product is what a term can come to.
func (c *channel) product(term api.Term) api.Span {
	over := c.numbers
	if term.At < 0 {
		over = c.padding
	}
	ends, _ := span.Times(over, int64(term.W))
	return ends
}

// one is the span of that number alone.
func one(number int64) api.Span { return api.Span{Lo: number, Hi: number} }

func plus(a, b api.Span) api.Span {
	sum, _ := span.Add(a, b)
	return sum
}

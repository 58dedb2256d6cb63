package bound

import (
	"iter"

	"spillway/api"
	"spillway/model"
	"spillway/span"
	"spillway/terms"
)

// channel is one of an op that reduces, whose tensor A has numbers of a span.
// It comes of a well-formed model, so that none of the calls below has an
// error: every number of it and of the op is at hand, and no sum is beyond
// 512 * 2^15 * 2^7 and a bias.
type channel struct {
	number            int
	positions, length int
	bias              int64
	numbers, padding  api.Span
	// alone is a model of the op only, with tensor A as its input: layer 10
	// asks at each position whether its model is well-formed, which would take
	// long with all the other ops in it, and the terms are the same.
	alone api.Model
}

func find(m api.Model, op, ch int, s api.Span) (channel, api.Errno) {
	first, bias, e := terms.Of(m, op, ch, 0)
	if e != api.OK {
		return channel{}, e
	}
	if !ofValues(s) {
		return channel{}, api.ErrSpan
	}
	shapes, _ := model.Shapes(m)
	reduction := m.Ops[op-1]
	reads, makes := shapes[reduction.A], shapes[op]
	reduction.A = 0
	return channel{
		number:    ch,
		positions: makes.H * makes.W,
		length:    len(first),
		bias:      bias,
		numbers:   s,
		padding:   one(int64(reduction.Pad)),
		alone:     api.Model{In: reads, Ops: []api.Op{reduction}},
	}, api.OK
}

const (
	leastValue    = -128
	greatestValue = 127
)

// ofValues: is it a span of values?
func ofValues(s api.Span) bool {
	return span.Holds(api.Span{Lo: leastValue, Hi: greatestValue}, s)
}

// hull of what is taken from the ends of the terms at each position. Nothing is
// listed on the way: a search for the best depth asks for as many hulls as a sum
// has terms.
func (c *channel) hull(pick func(ends []api.Span, take func(api.Span))) api.Span {
	var all api.Span
	begun := false
	take := func(s api.Span) {
		if !begun {
			all, begun = s, true
		}
		all, _ = span.Hull(all, s)
	}
	for ends := range c.rows() {
		pick(ends, take)
	}
	return all
}

// rows gives the ends of the terms, position by position.
func (c *channel) rows() iter.Seq[[]api.Span] {
	return func(yield func([]api.Span) bool) {
		for at := range c.positions {
			if !yield(c.ends(at)) {
				return
			}
		}
	}
}

// ends are those of the terms at a position, in order.
func (c *channel) ends(at int) []api.Span {
	row, _, _ := terms.Of(c.alone, 1, c.number, at)
	list := make([]api.Span, len(row))
	for i, term := range row {
		list[i] = c.product(term)
	}
	return list
}

// product is what a term can come to.
func (c *channel) product(term api.Term) api.Span {
	over := c.numbers
	if term.At < 0 {
		over = c.padding
	}
	ends, _ := span.Times(over, int64(term.W))
	return ends
}

// one is the span of that number alone.
func one(number int64) api.Span { return api.Span{Lo: number, Hi: number} }

func plus(a, b api.Span) api.Span {
	sum, _ := span.Add(a, b)
	return sum
}

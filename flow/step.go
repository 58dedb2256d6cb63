package flow

import (
	"spillway/api"
	"spillway/bound"
	"spillway/fixq"
	"spillway/span"
)

// step is an op of a well-formed model with the shape of tensor A and of the
// tensor that it makes. Since the model is well-formed, none of the calls below
// has an error: scales and ranges are valid, and no sum is beyond what Apply
// takes. Scales, means and Finish bring no greater number below a lesser one,
// so that the ends of what they are made of become the ends of what they make.
type step struct {
	api.Op
	reads, makes api.Shape
}

func stepOf(m api.Model, op int, shapes []api.Shape) step {
	o := m.Ops[op-1]
	return step{Op: o, reads: shapes[o.A], makes: shapes[op]}
}

// read are the spans of the tensors that the op reads; of a kind that reads no
// B, tensor A's stands for it, so that no other tensor's is looked at.
func (s *step) read(ranges []api.Span) (a, b api.Span) {
	a, b = ranges[s.A], ranges[s.A]
	if s.Kind == api.Add {
		b = ranges[s.B]
	}
	return a, b
}

const (
	leastValue    = -128
	greatestValue = 127
)

// ofValues: is it a span of values?
func ofValues(s api.Span) bool {
	return span.Holds(api.Span{Lo: leastValue, Hi: greatestValue}, s)
}

// comes is the span that comes of the op.
func (s *step) comes(a, b api.Span) api.Span {
	v := a
	switch s.Kind {
	case api.Add:
		sum, _ := span.Add(scaled(a, s.SA), scaled(b, s.SB))
		return s.finished(sum, s.Zero)
	case api.Dense, api.Conv, api.Depthwise:
		v = s.total(a)
		fallthrough
	case api.Rescale:
		return s.finished(scaled(v, s.SA), s.Zero)
	case api.Average:
		v = mean(s.total(a), s.Win.KH*s.Win.KW)
		fallthrough
	default: // Max and Clamp
		return s.finished(v, 0)
	}
}

// total is the hull of the channels' Totals.
func (s *step) total(over api.Span) api.Span {
	m := s.alone()
	all, _ := bound.Total(m, 1, 1, over)
	for ch := 2; ch <= s.makes.C; ch++ {
		one, _ := bound.Total(m, 1, ch, over)
		all, _ = span.Hull(all, one)
	}
	return all
}

// alone is a model of this op only, with tensor A as its input: layer 13 asks
// at each channel whether its model is well-formed, which would take long with
// all the other ops in it, and the sums are the same.
func (s *step) alone() api.Model {
	op := s.Op
	op.A = 0
	return api.Model{In: s.reads, Ops: []api.Op{op}}
}

func (s *step) finished(v api.Span, zero int) api.Span {
	lo, _ := fixq.Finish(v.Lo, zero, s.Lo, s.Hi)
	hi, _ := fixq.Finish(v.Hi, zero, s.Lo, s.Hi)
	return api.Span{Lo: int64(lo), Hi: int64(hi)}
}

func scaled(v api.Span, by api.Scale) api.Span {
	made, _ := span.Scaled(v, by)
	return made
}

func mean(sums api.Span, length int) api.Span {
	lo, _ := fixq.Mean(sums.Lo, length)
	hi, _ := fixq.Mean(sums.Hi, length)
	return api.Span{Lo: lo, Hi: hi}
}

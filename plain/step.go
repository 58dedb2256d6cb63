package plain

import (
	"math"

	"spillway/api"
	"spillway/fixq"
	"spillway/terms"
)

// step is an op of a well-formed model with the shapes of tensor A and of the
// tensor that it makes. Since the model is well-formed, none of the calls below
// has an error: scales and ranges are valid, and no sum is beyond what Apply
// takes.
type step struct {
	api.Op
	reads, makes api.Shape
}

// tensor is what the op makes of the tensors that it reads.
func (s *step) tensor(a, b []int8) []int8 {
	values := s.values(a, b)
	list := make([]int8, len(values))
	for i, v := range values {
		// A Zero that the kind doesn't use is 0, as the chapter asks of it.
		number, _ := fixq.Finish(v, s.Zero, s.Lo, s.Hi)
		list[i] = int8(number)
	}
	return list
}

// values are the numbers that the op makes ahead of their Finish.
func (s *step) values(a, b []int8) []int64 {
	switch s.Kind {
	case api.Dense, api.Conv, api.Depthwise:
		return scaled(s.sums(a), s.SA)
	case api.Average:
		return means(s.sums(a), s.Win.KH*s.Win.KW)
	case api.Max:
		return s.greatest(a)
	case api.Add:
		return added(scaled(widened(a), s.SA), scaled(widened(b), s.SB))
	case api.Rescale:
		return scaled(widened(a), s.SA)
	}
	return widened(a)
}

// sums of an op that reduces, a standing for tensor A.
func (s *step) sums(a []int8) []int64 {
	m := s.alone()
	list := make([]int64, 0, places(s.makes))
	for at := range s.makes.H * s.makes.W {
		for ch := 1; ch <= s.makes.C; ch++ {
			of, bias, _ := terms.Of(m, 1, ch, at)
			list = append(list, bias+s.sum(of, a))
		}
	}
	return list
}

// alone is a model of this op only, with tensor A as its input: layer 10 asks
// at each sum whether its model is well-formed, which would take long with all
// the other ops in it, and the terms are the same.
func (s *step) alone() api.Model {
	op := s.Op
	op.A = 0
	return api.Model{In: s.reads, Ops: []api.Op{op}}
}

// sum of the terms without the bias.
func (s *step) sum(of []api.Term, a []int8) int64 {
	sum := int64(0)
	for _, term := range of {
		number := s.Pad
		if term.At >= 0 {
			number = int(a[term.At])
		}
		sum += int64(term.W) * int64(number)
	}
	return sum
}

// greatest are the numbers of a Max.
func (s *step) greatest(a []int8) []int64 {
	list := make([]int64, 0, places(s.makes))
	for row := range s.makes.H {
		for column := range s.makes.W {
			for c := range s.makes.C {
				list = append(list, s.greatestUnder(a, row*s.Win.SH, column*s.Win.SW, c))
			}
		}
	}
	return list
}

// greatestUnder is the greatest number of a channel under the window whose
// corner is at that row and column of tensor A; a Max has no padding, so that
// all of the window lies within.
func (s *step) greatestUnder(a []int8, top, left, c int) int64 {
	greatest := int64(math.MinInt8)
	for y := top; y < top+s.Win.KH; y++ {
		for x := left; x < left+s.Win.KW; x++ {
			greatest = max(greatest, int64(a[(y*s.reads.W+x)*s.reads.C+c]))
		}
	}
	return greatest
}

func widened(numbers []int8) []int64 {
	list := make([]int64, len(numbers))
	for i, number := range numbers {
		list[i] = int64(number)
	}
	return list
}

func scaled(numbers []int64, by api.Scale) []int64 {
	list := make([]int64, len(numbers))
	for i, number := range numbers {
		list[i], _ = fixq.Apply(number, by)
	}
	return list
}

func means(sums []int64, length int) []int64 {
	list := make([]int64, len(sums))
	for i, sum := range sums {
		list[i], _ = fixq.Mean(sum, length)
	}
	return list
}

// added are the numbers of two lists of one length, place by place.
func added(these, those []int64) []int64 {
	list := make([]int64, len(these))
	for i := range list {
		list[i] = these[i] + those[i]
	}
	return list
}

package flow_test

import (
	"math"
	"math/big"
	"slices"

	"spillway/api"
	"spillway/model"
)

// What follows reads the chapter a second time, in another way: the plane is
// laid out with its padding about it and the window slid over that, quotients
// are rounded in whole numbers without end, each sum, or each number of a span,
// is brought to its end by itself, and only then the hull is taken of all that
// was made. Which models are well-formed, and their shapes, it asks layer 8.

// gathered is the hull of the numbers that it has taken.
type gathered api.Span

func none() gathered { return gathered{math.MaxInt64, math.MinInt64} }

func (g *gathered) take(numbers ...int64) {
	for _, n := range numbers {
		g.Lo, g.Hi = min(g.Lo, n), max(g.Hi, n)
	}
}

// halfAway is the quotient of two numbers, the second above 0, rounded.
func halfAway(over, under *big.Int) *big.Int {
	twice := new(big.Int).Abs(over)
	twice.Lsh(twice, 1).Add(twice, under)
	twice.Quo(twice, new(big.Int).Lsh(under, 1))
	if over.Sign() < 0 {
		twice.Neg(twice)
	}
	return twice
}

func whole(n int64) *big.Int { return big.NewInt(n) }

func secondScale(n int64, s api.Scale) *big.Int {
	return halfAway(new(big.Int).Mul(whole(n), whole(int64(s.Mult))), new(big.Int).Lsh(whole(1), uint(s.Shift)))
}

func secondMean(sum int64, n int) *big.Int { return halfAway(whole(sum), whole(int64(n))) }

// secondFinish brings what was made so far to the op's range.
func secondFinish(v *big.Int, zero int, op api.Op) int64 {
	v = new(big.Int).Add(v, whole(int64(zero)))
	if v.Cmp(whole(int64(op.Lo))) < 0 {
		return int64(op.Lo)
	}
	if v.Cmp(whole(int64(op.Hi))) > 0 {
		return int64(op.Hi)
	}
	return v.Int64()
}

// channelsOf are those of a tensor of a well-formed model.
func channelsOf(m api.Model, tensor int) int {
	if tensor == 0 {
		return m.In.C
	}
	op := m.Ops[tensor-1]
	if op.Kind == api.Dense || op.Kind == api.Conv {
		return op.M
	}
	return channelsOf(m, op.A)
}

// laidOut is the plane with its padding about it: which places are padding.
func laidOut(a api.Shape, w api.Window) [][]bool {
	var plane [][]bool
	for y := range w.Top + a.H + w.Bottom {
		line := make([]bool, w.Left+a.W+w.Right)
		for x := range line {
			line[x] = y < w.Top || y >= w.Top+a.H || x < w.Left || x >= w.Left+a.W
		}
		plane = append(plane, line)
	}
	return plane
}

// secondWeights are each channel's weights and its bias.
func secondWeights(m api.Model, op int) ([][]int16, []int32) {
	o, channels := m.Ops[op-1], channelsOf(m, op)
	if o.Kind == api.Average {
		ones := slices.Repeat([]int16{1}, o.Win.KH*o.Win.KW)
		return slices.Repeat([][]int16{ones}, channels), make([]int32, channels)
	}
	return slices.Collect(slices.Chunk(o.Weights, len(o.Weights)/channels)), o.Bias
}

// secondSums are the least and the greatest sum of every channel at every
// position.
func secondSums(m api.Model, op int, s api.Span) []int64 {
	o := m.Ops[op-1]
	shapes, _ := model.Shapes(m)
	a := shapes[o.A]
	if o.Kind == api.Dense {
		o.Win, a.H, a.W = kernel(1, 1, 1, 1), 1, 1
	}
	plane := laidOut(a, o.Win)
	weights, biases := secondWeights(m, op)
	var all []int64
	for top := 0; top+o.Win.KH <= len(plane); top += o.Win.SH {
		for left := 0; left+o.Win.KW <= len(plane[0]); left += o.Win.SW {
			for c, list := range weights {
				least, most := int64(biases[c]), int64(biases[c])
				each := len(list) / (o.Win.KH * o.Win.KW) // terms to a tap
				for i, w := range list {
					y, x := i/each/o.Win.KW, i/each%o.Win.KW
					lo, hi := int64(w)*s.Lo, int64(w)*s.Hi
					if plane[top+y][left+x] {
						lo, hi = int64(w)*int64(o.Pad), int64(w)*int64(o.Pad)
					}
					least, most = least+min(lo, hi), most+max(lo, hi)
				}
				all = append(all, least, most)
			}
		}
	}
	return all
}

// numbersIn are all that a span holds.
func numbersIn(s api.Span) []int64 {
	var list []int64
	for n := s.Lo; n <= s.Hi; n++ {
		list = append(list, n)
	}
	return list
}

// secondComes is the span that comes of an op, r being spans of values where
// the op reads.
func secondComes(m api.Model, op int, r []api.Span) api.Span {
	o := m.Ops[op-1]
	made := none()
	switch o.Kind {
	case api.Dense, api.Conv, api.Depthwise:
		for _, sum := range secondSums(m, op, r[o.A]) {
			made.take(secondFinish(secondScale(sum, o.SA), o.Zero, o))
		}
	case api.Average:
		for _, sum := range secondSums(m, op, r[o.A]) {
			made.take(secondFinish(secondMean(sum, o.Win.KH*o.Win.KW), 0, o))
		}
	case api.Max, api.Clamp:
		for _, n := range numbersIn(r[o.A]) {
			made.take(secondFinish(whole(n), 0, o))
		}
	case api.Rescale:
		for _, n := range numbersIn(r[o.A]) {
			made.take(secondFinish(secondScale(n, o.SA), o.Zero, o))
		}
	case api.Add:
		a, b := none(), none()
		for _, n := range numbersIn(r[o.A]) {
			a.take(secondScale(n, o.SA).Int64())
		}
		for _, n := range numbersIn(r[o.B]) {
			b.take(secondScale(n, o.SB).Int64())
		}
		made.take(secondFinish(whole(a.Lo+b.Lo), o.Zero, o), secondFinish(whole(a.Hi+b.Hi), o.Zero, o))
	}
	return api.Span(made)
}

func secondIsOfValues(s api.Span) bool { return s.Lo >= -128 && s.Hi <= 127 && s.Lo <= s.Hi }

// secondOut is what Out ought to answer.
func secondOut(m api.Model, op int, r []api.Span) (api.Span, api.Errno) {
	if f := model.Check(m); f != (api.Fault{}) {
		return api.Span{}, f.Err
	}
	if op <= 0 || op-1 >= len(m.Ops) {
		return api.Span{}, 3
	}
	if len(r) < op {
		return api.Span{}, 70
	}
	o := m.Ops[op-1]
	if !secondIsOfValues(r[o.A]) || o.Kind == 6 && !secondIsOfValues(r[o.B]) {
		return api.Span{}, 30
	}
	return secondComes(m, op, r), 0
}

// secondSpread is what Spread ought to answer.
func secondSpread(m api.Model) ([]api.Span, api.Fault) {
	if f := model.Check(m); f != (api.Fault{}) {
		return nil, f
	}
	list := []api.Span{span(int64(m.Lo), int64(m.Hi))}
	for op := 1; op <= len(m.Ops); op++ {
		list = append(list, secondComes(m, op, list))
	}
	return list, api.Fault{}
}

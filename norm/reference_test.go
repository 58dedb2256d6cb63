package norm_test

import (
	"math/big"
	"slices"

	"spillway/api"
	"spillway/model"
)

// What follows reads the chapter a second time, in another way: an op's list of
// weights is cut into as many pieces as it has channels, they are added up in
// whole numbers without end, each sum by its own words, and the reach is sought
// from 0 on. Which models are well-formed it asks layer 8.

func ones(n int) []int16 { return slices.Repeat([]int16{1}, n) }

// channelsOf are those of a tensor of a well-formed model.
func channelsOf(m api.Model, tensor int) int {
	if tensor == 0 {
		return m.In.C
	}
	op := m.Ops[tensor-1]
	if op.Kind == api.Dense || op.Kind == api.Conv {
		return op.M
	}
	return channelsOf(m, op.A)
}

// secondWeights are a channel's weights and its bias.
func secondWeights(m api.Model, op, ch int) ([]int16, int32, api.Errno) {
	if f := model.Check(m); f != (api.Fault{}) {
		return nil, 0, f.Err
	}
	if op <= 0 || op-1 >= len(m.Ops) {
		return nil, 0, 3
	}
	o := m.Ops[op-1]
	if o.Kind > 4 {
		return nil, 0, 81
	}
	channels := channelsOf(m, op)
	if ch <= 0 || ch-1 >= channels {
		return nil, 0, 3
	}
	if o.Kind == api.Average {
		return ones(o.Win.KH * o.Win.KW), 0, 0
	}
	pieces := slices.Collect(slices.Chunk(o.Weights, len(o.Weights)/channels))
	return pieces[ch-1], o.Bias[ch-1], 0
}

// secondL1 is what L1 ought to answer.
func secondL1(m api.Model, op, ch int) (int64, api.Errno) {
	weights, _, e := secondWeights(m, op, ch)
	sum := new(big.Int)
	for _, w := range weights {
		sum.Add(sum, new(big.Int).Abs(big.NewInt(int64(w))))
	}
	return sum.Int64(), e
}

// secondSigned is what Signed ought to answer.
func secondSigned(m api.Model, op, ch int) (int64, int64, api.Errno) {
	weights, _, e := secondWeights(m, op, ch)
	above, below := new(big.Int), new(big.Int)
	for _, w := range weights {
		switch n := big.NewInt(int64(w)); n.Sign() {
		case 1:
			above.Add(above, n)
		case -1:
			below.Add(below, n)
		}
	}
	return above.Int64(), below.Int64(), e
}

// secondReach is the least distance from 0 within which the span's ends lie,
// and the padding, where there is some.
func secondReach(op api.Op, s api.Span) int64 {
	numbers := []int64{s.Lo, s.Hi}
	for _, side := range []int{op.Win.Top, op.Win.Left, op.Win.Bottom, op.Win.Right} {
		if side > 0 {
			numbers = append(numbers, int64(op.Pad))
		}
	}
	far := int64(0)
	for slices.ContainsFunc(numbers, func(n int64) bool { return n < -far || n > far }) {
		far++
	}
	return far
}

// secondQuick is what Quick ought to answer.
func secondQuick(m api.Model, op, ch int, s api.Span) (api.Span, api.Errno) {
	sum, e := secondL1(m, op, ch)
	if e != 0 {
		return api.Span{}, e
	}
	if s.Lo < -128 || s.Hi > 127 || s.Lo > s.Hi {
		return api.Span{}, 30
	}
	_, bias, _ := secondWeights(m, op, ch)
	away := new(big.Int).Mul(big.NewInt(sum), big.NewInt(secondReach(m.Ops[op-1], s)))
	lo := new(big.Int).Sub(big.NewInt(int64(bias)), away)
	hi := new(big.Int).Add(big.NewInt(int64(bias)), away)
	return span(lo.Int64(), hi.Int64()), 0
}

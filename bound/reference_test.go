package bound_test

import (
	"math"
	"slices"

	"spillway/api"
	"spillway/model"
)

// What follows reads the chapter a second time, in another way: the plane is
// laid out with its padding about it and the window slid over that, a term's
// ends are sought by trying every number of the span, and the sum of any terms
// in a row is what stands behind them less what stands ahead of them. Which
// models are well-formed it asks layer 8.

// channelsOf are those of a tensor of a well-formed model.
func channelsOf(m api.Model, tensor int) int {
	if tensor == 0 {
		return m.In.C
	}
	op := m.Ops[tensor-1]
	if op.Kind == api.Dense || op.Kind == api.Conv {
		return op.M
	}
	return channelsOf(m, op.A)
}

// product is a term as the second reading has it: its weight, and whether it
// goes with the padding.
type product struct {
	weight int64
	pad    bool
}

// secondWeights are a channel's weights and its bias.
func secondWeights(m api.Model, op, ch int) ([]int16, int64) {
	o := m.Ops[op-1]
	if o.Kind == api.Average {
		return slices.Repeat([]int16{1}, o.Win.KH*o.Win.KW), 0
	}
	pieces := slices.Collect(slices.Chunk(o.Weights, len(o.Weights)/channelsOf(m, op)))
	return pieces[ch-1], int64(o.Bias[ch-1])
}

// laidOut is the plane with its padding about it: which places are padding.
func laidOut(a api.Shape, w api.Window) [][]bool {
	var plane [][]bool
	for y := range w.Top + a.H + w.Bottom {
		line := make([]bool, w.Left+a.W+w.Right)
		for x := range line {
			line[x] = y < w.Top || y >= w.Top+a.H || x < w.Left || x >= w.Left+a.W
		}
		plane = append(plane, line)
	}
	return plane
}

// secondRows are the products at each position, in order, and the bias.
func secondRows(m api.Model, op, ch int) ([][]product, int64) {
	weights, bias := secondWeights(m, op, ch)
	o := m.Ops[op-1]
	shapes, _ := model.Shapes(m)
	a := shapes[o.A]
	if o.Kind == api.Dense {
		o.Win, a.H, a.W = kernel(1, 1, 1, 1), 1, 1
	}
	plane := laidOut(a, o.Win)
	each := len(weights) / (o.Win.KH * o.Win.KW) // terms to a tap
	var rows [][]product
	for top := 0; top+o.Win.KH <= len(plane); top += o.Win.SH {
		for left := 0; left+o.Win.KW <= len(plane[0]); left += o.Win.SW {
			row := make([]product, 0, len(weights))
			for i, w := range weights {
				y, x := i/each/o.Win.KW, i/each%o.Win.KW
				row = append(row, product{int64(w), plane[top+y][left+x]})
			}
			rows = append(rows, row)
		}
	}
	return rows, bias
}

// secondEnds tries every number of the span.
func secondEnds(weight int64, s api.Span) api.Span {
	ends := none()
	for number := s.Lo; number <= s.Hi; number++ {
		ends.take(weight * number)
	}
	return api.Span(ends)
}

// gathered is the hull of the numbers that it has taken.
type gathered api.Span

func none() gathered { return gathered{math.MaxInt64, math.MinInt64} }

func (g *gathered) take(numbers ...int64) {
	for _, n := range numbers {
		g.Lo, g.Hi = min(g.Lo, n), max(g.Hi, n)
	}
}

// sums are those of a row's first terms, from none of them on: of the least
// ends, and of the greatest.
type sums struct{ least, greatest []int64 }

// secondSums are those of each position of a channel, and its bias.
func secondSums(m api.Model, op, ch int, s api.Span) ([]sums, int64) {
	rows, bias := secondRows(m, op, ch)
	known := map[product]api.Span{}
	var list []sums
	for _, row := range rows {
		p := sums{[]int64{0}, []int64{0}}
		for j, t := range row {
			ends, ok := known[t]
			if !ok {
				over := s
				if pad := int64(m.Ops[op-1].Pad); t.pad {
					over = span(pad, pad)
				}
				ends = secondEnds(t.weight, over)
				known[t] = ends
			}
			p.least = append(p.least, p.least[j]+ends.Lo)
			p.greatest = append(p.greatest, p.greatest[j]+ends.Hi)
		}
		list = append(list, p)
	}
	return list, bias
}

// secondError is the one that stands ahead of a depth.
func secondError(m api.Model, op, ch int, s api.Span) api.Errno {
	if f := model.Check(m); f != (api.Fault{}) {
		return f.Err
	}
	if op <= 0 || op-1 >= len(m.Ops) {
		return 3
	}
	if m.Ops[op-1].Kind > 4 {
		return 81
	}
	if ch <= 0 || ch-1 >= channelsOf(m, op) {
		return 3
	}
	if s.Lo < -128 || s.Hi > 127 || s.Lo > s.Hi {
		return 30
	}
	return 0
}

// lengthOf an op that reduces.
func lengthOf(m api.Model, op int) int {
	weights, _ := secondWeights(m, op, 1)
	return len(weights)
}

// answers are those of the four calls over one span; parts are Part's, depth by
// depth.
type answers struct {
	total, run, single api.Span
	parts              map[int]api.Span
}

// second is what the calls ought to answer where they have no error.
func second(m api.Model, op, ch int, s api.Span, depths []int) answers {
	all, bias := secondSums(m, op, ch, s)
	total, run, single := none(), none(), none()
	parts := map[int]gathered{}
	for _, k := range depths {
		parts[k] = none()
	}
	for _, p := range all {
		last := len(p.least) - 1
		total.take(bias+p.least[last], bias+p.greatest[last])
		for j := range p.least {
			run.take(bias+p.least[j], bias+p.greatest[j])
		}
		for j := range last {
			single.take(p.least[j+1]-p.least[j], p.greatest[j+1]-p.greatest[j])
		}
		for _, k := range depths {
			part := parts[k]
			for j := range last {
				ahead := j / k * k
				part.take(p.least[j+1]-p.least[ahead], p.greatest[j+1]-p.greatest[ahead])
			}
			parts[k] = part
		}
	}
	a := answers{api.Span(total), api.Span(run), api.Span(single), map[int]api.Span{}}
	for _, k := range depths {
		part := parts[k]
		part.take(single.Lo, single.Hi)
		a.parts[k] = api.Span(part)
	}
	return a
}

package depth_test

import (
	"math"
	"slices"

	"spillway/api"
	"spillway/model"
)

// What follows reads the chapter a second time, in another way, and asks none
// of the layers below but layer 8, which models are well-formed: the plane is
// laid out with its padding about it and the window slid over that; the sum of
// any terms in a row is what stands behind them less what stands ahead of them;
// all depths are gone through from 1 on, none left out, and those that are safe
// are gathered.

// gathered is the hull of the numbers that it has taken.
type gathered api.Span

func none() gathered { return gathered{math.MaxInt64, math.MinInt64} }

func (g *gathered) take(numbers ...int64) {
	for _, n := range numbers {
		g.Lo, g.Hi = min(g.Lo, n), max(g.Hi, n)
	}
}

// secondShape is that of a tensor of a well-formed model.
func secondShape(m api.Model, tensor int) api.Shape {
	if tensor == 0 {
		return m.In
	}
	op := m.Ops[tensor-1]
	made := secondShape(m, op.A)
	switch op.Kind {
	case api.Dense:
		return of(1, 1, op.M)
	case api.Conv:
		made.C = op.M
		fallthrough
	case api.Depthwise, api.Average, api.Max:
		made.H = slid(op.Win.Top+made.H+op.Win.Bottom, op.Win.KH, op.Win.SH)
		made.W = slid(op.Win.Left+made.W+op.Win.Right, op.Win.KW, op.Win.SW)
	}
	return made
}

// slid counts where a window stands along a side, its padding counted.
func slid(side, size, step int) int {
	n := 0
	for at := 0; at+size <= side; at += step {
		n++
	}
	return n
}

// secondChannels are how many plans an op's list ought to have.
func secondChannels(m api.Model, op int) int {
	if m.Ops[op-1].Kind > 4 {
		return 0
	}
	return secondShape(m, op).C
}

// secondWeights are the weights and the bias of a channel of an op that
// reduces.
func secondWeights(m api.Model, op, ch int) ([]int16, int64) {
	o := m.Ops[op-1]
	if o.Kind == api.Average {
		return slices.Repeat([]int16{1}, o.Win.KH*o.Win.KW), 0
	}
	pieces := slices.Collect(slices.Chunk(o.Weights, len(o.Weights)/secondChannels(m, op)))
	return pieces[ch-1], int64(o.Bias[ch-1])
}

// laidOut is the plane with its padding about it: which places are padding.
func laidOut(a api.Shape, w api.Window) [][]bool {
	var plane [][]bool
	for y := range w.Top + a.H + w.Bottom {
		line := make([]bool, w.Left+a.W+w.Right)
		for x := range line {
			line[x] = y < w.Top || y >= w.Top+a.H || x < w.Left || x >= w.Left+a.W
		}
		plane = append(plane, line)
	}
	return plane
}

// sums are those of the first terms at a position, from none of them on: of
// their least ends, and of their greatest.
type sums struct{ least, greatest []int64 }

func (p *sums) then(a, b int64) {
	j := len(p.least) - 1
	p.least = append(p.least, p.least[j]+min(a, b))
	p.greatest = append(p.greatest, p.greatest[j]+max(a, b))
}

// reading is what the second reading finds of a channel over a span.
type reading struct {
	rows   []sums // of each position
	bias   int64
	length int
}

func read(m api.Model, op, ch int, s api.Span) reading {
	weights, bias := secondWeights(m, op, ch)
	o, a := m.Ops[op-1], secondShape(m, m.Ops[op-1].A)
	if o.Kind == api.Dense {
		o.Win, a.H, a.W = kernel(1, 1, 1, 1), 1, 1
	}
	plane, pad := laidOut(a, o.Win), int64(o.Pad)
	each := len(weights) / (o.Win.KH * o.Win.KW) // terms to a tap
	r := reading{bias: bias, length: len(weights)}
	for top := 0; top+o.Win.KH <= len(plane); top += o.Win.SH {
		for left := 0; left+o.Win.KW <= len(plane[0]); left += o.Win.SW {
			row := sums{[]int64{0}, []int64{0}}
			for i, w := range weights {
				y, x := i/each/o.Win.KW, i/each%o.Win.KW
				if plane[top+y][left+x] {
					row.then(int64(w)*pad, int64(w)*pad)
				} else {
					row.then(int64(w)*s.Lo, int64(w)*s.Hi)
				}
			}
			r.rows = append(r.rows, row)
		}
	}
	return r
}

// run holds all running sums, total the last of them alone.
func (r reading) run() api.Span {
	all := none()
	for _, row := range r.rows {
		all.take(r.bias + slices.Min(row.least))
		all.take(r.bias + slices.Max(row.least))
		all.take(r.bias + slices.Min(row.greatest))
		all.take(r.bias + slices.Max(row.greatest))
	}
	return api.Span(all)
}

func (r reading) total() api.Span {
	all := none()
	for _, row := range r.rows {
		all.take(r.bias+row.least[r.length], r.bias+row.greatest[r.length])
	}
	return api.Span(all)
}

// part holds what blocks of that depth come to, and every single term.
func (r reading) part(depth int) api.Span {
	all := none()
	for _, row := range r.rows {
		for j := range r.length {
			for _, ahead := range []int{j / depth * depth, j} {
				all.take(row.least[j+1]-row.least[ahead], row.greatest[j+1]-row.greatest[ahead])
			}
		}
	}
	return api.Span(all)
}

func isInt16(n int64) bool { return n == int64(int16(n)) }

func isInt32(n int64) bool { return n == int64(int32(n)) }

// both: is it so at both ends?
func both(s api.Span, is func(int64) bool) bool { return is(s.Lo) && is(s.Hi) }

// safe are all depths that are.
func (r reading) safe() []int {
	var all []int
	for depth := range r.length + 1 {
		if depth > 0 && both(r.part(depth), isInt16) {
			all = append(all, depth)
		}
	}
	return all
}

// most is the last of them, or 0.
func (r reading) most() int {
	return slices.Max(append(r.safe(), 0))
}

// chosen is the plan, and whether there is one.
func (r reading) chosen() (api.Chan, api.Errno) {
	if !both(r.run(), isInt32) {
		return api.Chan{}, 154
	}
	if k := r.most(); k > 0 {
		return api.Chan{Width: 16, Depth: k, Part: r.part(k), Total: r.total()}, 0
	}
	return api.Chan{Width: 32, Depth: r.length, Part: r.run(), Total: r.total()}, 0
}

// aheadOfAll is the error that rules 3 to 5 have.
func aheadOfAll(m api.Model, op, ch int, s api.Span) api.Errno {
	if f := model.Check(m); f != (api.Fault{}) {
		return f.Err
	}
	if op <= 0 || op-1 >= len(m.Ops) {
		return 3
	}
	if m.Ops[op-1].Kind > 4 {
		return 81
	}
	if ch <= 0 || ch-1 >= secondChannels(m, op) {
		return 3
	}
	if s.Lo < -128 || s.Hi > 127 || s.Lo > s.Hi {
		return 30
	}
	return 0
}

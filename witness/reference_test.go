package witness_test

import (
	"math"
	"slices"

	"spillway/api"
	"spillway/model"
)

// What follows reads the chapter a second time, in another way, and asks none
// of the layers below but layer 8, which models are well-formed: the plane is
// laid out with its padding about it and the window slid over that; the sum of
// any terms in a row is what stands behind them less what stands ahead of them.

// gathered is the hull of the numbers that it has taken.
type gathered api.Span

func none() gathered { return gathered{math.MaxInt64, math.MinInt64} }

func (g *gathered) take(numbers ...int64) {
	for _, n := range numbers {
		g.Lo, g.Hi = min(g.Lo, n), max(g.Hi, n)
	}
}

// secondShape is that of a tensor of a well-formed model.
func secondShape(m api.Model, tensor int) api.Shape {
	if tensor == 0 {
		return m.In
	}
	op := m.Ops[tensor-1]
	made := secondShape(m, op.A)
	switch op.Kind {
	case api.Dense:
		return of(1, 1, op.M)
	case api.Conv:
		made.C = op.M
		fallthrough
	case api.Depthwise, api.Average, api.Max:
		made.H = slid(op.Win.Top+made.H+op.Win.Bottom, op.Win.KH, op.Win.SH)
		made.W = slid(op.Win.Left+made.W+op.Win.Right, op.Win.KW, op.Win.SW)
	}
	return made
}

// slid counts where a window stands along a side, its padding counted.
func slid(side, size, step int) int {
	n := 0
	for at := 0; at+size <= side; at += step {
		n++
	}
	return n
}

// secondChannels are how many channels an op that reduces has.
func secondChannels(m api.Model, op int) int {
	if m.Ops[op-1].Kind > 4 {
		return 0
	}
	return secondShape(m, op).C
}

// secondWeights are the weights and the bias of a channel of an op that
// reduces.
func secondWeights(m api.Model, op, ch int) ([]int16, int64) {
	o := m.Ops[op-1]
	if o.Kind == api.Average {
		return slices.Repeat([]int16{1}, o.Win.KH*o.Win.KW), 0
	}
	pieces := slices.Collect(slices.Chunk(o.Weights, len(o.Weights)/secondChannels(m, op)))
	return pieces[ch-1], int64(o.Bias[ch-1])
}

// cell is a term as it is drawn: its weight, and the place of its number in
// tensor A, or none under padding.
type cell struct {
	weight int64
	place  int
}

const underPadding = math.MinInt

// laidOut is the plane with its padding about it: at which place of the plane
// each is.
func laidOut(a api.Shape, w api.Window) [][]int {
	var plane [][]int
	for y := range w.Top + a.H + w.Bottom {
		line := slices.Repeat([]int{underPadding}, w.Left+a.W+w.Right)
		for x := range a.W {
			if w.Top <= y && y < w.Top+a.H {
				line[w.Left+x] = (y-w.Top)*a.W + x
			}
		}
		plane = append(plane, line)
	}
	return plane
}

// sums are those of the first terms at a position, from none of them on: of
// their least ends, and of their greatest.
type sums struct{ least, greatest []int64 }

func (p *sums) then(a, b int64) {
	j := len(p.least) - 1
	p.least = append(p.least, p.least[j]+min(a, b))
	p.greatest = append(p.greatest, p.greatest[j]+max(a, b))
}

// reading is what the second reading finds of a channel over a span.
type reading struct {
	s      api.Span
	cells  [][]cell // of each position
	rows   []sums   // of each position
	bias   int64
	pad    int64
	length int
	places int // of tensor A
}

// draw finds what the channel's sums are made of, position by position.
func (r *reading) draw(o api.Op, a api.Shape, ch int, weights []int16) {
	plane := laidOut(a, o.Win)
	each, first := len(weights)/(o.Win.KH*o.Win.KW), 0
	if o.Kind == api.Depthwise || o.Kind == api.Average {
		first = ch - 1
	}
	for top := 0; top+o.Win.KH <= len(plane); top += o.Win.SH {
		for left := 0; left+o.Win.KW <= len(plane[0]); left += o.Win.SW {
			var row []cell
			for i, w := range weights {
				c := cell{int64(w), plane[top+i/each/o.Win.KW][left+i/each%o.Win.KW]}
				if c.place != underPadding {
					c.place = c.place*a.C + first + i%each
				}
				row = append(row, c)
			}
			r.cells = append(r.cells, row)
		}
	}
}

func read(m api.Model, op, ch int, s api.Span) reading {
	weights, bias := secondWeights(m, op, ch)
	o, a := m.Ops[op-1], secondShape(m, m.Ops[op-1].A)
	if o.Kind == api.Dense {
		o.Win = kernel(a.H, a.W, 1, 1)
	}
	r := reading{s: s, bias: bias, pad: int64(o.Pad), length: len(weights), places: a.H * a.W * a.C}
	r.draw(o, a, ch, weights)
	for _, row := range r.cells {
		p := sums{[]int64{0}, []int64{0}}
		for _, c := range row {
			if c.place == underPadding {
				p.then(c.weight*r.pad, c.weight*r.pad)
			} else {
				p.then(c.weight*s.Lo, c.weight*s.Hi)
			}
		}
		r.rows = append(r.rows, p)
	}
	return r
}

// total holds all sums.
func (r reading) total() api.Span {
	all := none()
	for _, row := range r.rows {
		all.take(r.bias+row.least[r.length], r.bias+row.greatest[r.length])
	}
	return api.Span(all)
}

// part holds what blocks of that depth come to, and every single term.
func (r reading) part(depth int) api.Span {
	all := none()
	for _, row := range r.rows {
		for j := range r.length {
			for _, ahead := range []int{j / depth * depth, j} {
				all.take(row.least[j+1]-row.least[ahead], row.greatest[j+1]-row.greatest[ahead])
			}
		}
	}
	return api.Span(all)
}

func isInt16(n int64) bool { return n == int64(int16(n)) }

// isSafe: is the depth safe?
func (r reading) isSafe(depth int) bool {
	part := r.part(depth)
	return isInt16(part.Lo) && isInt16(part.Hi)
}

// come is what the terms from the one to ahead of the other come to at a
// position, over these numbers.
func (r reading) come(at, from, upto int, x []int8) int64 {
	sum := int64(0)
	for _, c := range r.cells[at][from:upto] {
		if c.place == underPadding {
			sum += c.weight * r.pad
		} else {
			sum += c.weight * int64(x[c.place])
		}
	}
	return sum
}

// isInput: are they as many numbers as tensor A has, all of the span?
func (r reading) isInput(x []int8) bool {
	outside := func(n int8) bool { return int64(n) < r.s.Lo || int64(n) > r.s.Hi }
	return len(x) == r.places && !slices.ContainsFunc(x, outside)
}

// reaches: does the channel's sum at the witness's position come to that, over
// its numbers?
func (r reading) reaches(w api.Witness, sum int64) bool {
	return w.At >= 0 && w.At < len(r.rows) && r.isInput(w.X) && r.bias+r.come(w.At, 0, r.length, w.X) == sum
}

// isLeak: does it break a register of 16 bits with blocks of that depth?
func (r reading) isLeak(l api.Leak, depth int) bool {
	if l.At < 0 || l.At >= len(r.rows) || l.From < 0 || l.Upto <= l.From || l.Upto > r.length || !r.isInput(l.X) {
		return false
	}
	if l.Upto > l.From+1 && (l.From%depth != 0 || l.Upto > l.From+depth) {
		return false
	}
	return !isInt16(r.come(l.At, l.From, l.Upto, l.X))
}

// aheadOfAll is the error that rules 3 to 5 have.
func aheadOfAll(m api.Model, op, ch int, s api.Span) api.Errno {
	if f := model.Check(m); f != (api.Fault{}) {
		return f.Err
	}
	if op <= 0 || op-1 >= len(m.Ops) {
		return 3
	}
	if m.Ops[op-1].Kind > 4 {
		return 81
	}
	if ch <= 0 || ch-1 >= secondChannels(m, op) {
		return 3
	}
	if s.Lo < -128 || s.Hi > 127 || s.Lo > s.Hi {
		return 30
	}
	return 0
}

package plan_test

import (
	"math"
	"math/big"
	"slices"

	"spillway/api"
	"spillway/model"
)

// What follows reads the chapter a second time, in another way, and asks none
// of the layers below but layer 8, which models are well-formed: the plane is
// laid out with its padding about it and the window slid over that; the sum of
// any terms in a row is what stands behind them less what stands ahead of them;
// quotients are rounded in whole numbers without end, and each sum, or each
// number of a span, is brought to its end by itself; all channels are gone
// through, back to front, those with running sums beyond 32 bits are gathered,
// and of all depths those that are safe.

// gathered is the hull of the numbers that it has taken.
type gathered api.Span

func none() gathered { return gathered{math.MaxInt64, math.MinInt64} }

func (g *gathered) take(numbers ...int64) {
	for _, n := range numbers {
		g.Lo, g.Hi = min(g.Lo, n), max(g.Hi, n)
	}
}

// secondShape is that of a tensor of a well-formed model.
func secondShape(m api.Model, tensor int) api.Shape {
	if tensor == 0 {
		return m.In
	}
	op := m.Ops[tensor-1]
	made := secondShape(m, op.A)
	switch op.Kind {
	case api.Dense:
		return of(1, 1, op.M)
	case api.Conv:
		made.C = op.M
		fallthrough
	case api.Depthwise, api.Average, api.Max:
		made.H = slid(op.Win.Top+made.H+op.Win.Bottom, op.Win.KH, op.Win.SH)
		made.W = slid(op.Win.Left+made.W+op.Win.Right, op.Win.KW, op.Win.SW)
	}
	return made
}

// slid counts where a window stands along a side, its padding counted.
func slid(side, size, step int) int {
	n := 0
	for at := 0; at+size <= side; at += step {
		n++
	}
	return n
}

// secondChannels are how many plans an op's list ought to have.
func secondChannels(m api.Model, op int) int {
	if m.Ops[op-1].Kind > 4 {
		return 0
	}
	return secondShape(m, op).C
}

// secondWeights are the weights and the bias of a channel of an op that
// reduces.
func secondWeights(m api.Model, op, ch int) ([]int16, int64) {
	o := m.Ops[op-1]
	if o.Kind == api.Average {
		return slices.Repeat([]int16{1}, o.Win.KH*o.Win.KW), 0
	}
	pieces := slices.Collect(slices.Chunk(o.Weights, len(o.Weights)/secondChannels(m, op)))
	return pieces[ch-1], int64(o.Bias[ch-1])
}

// laidOut is the plane with its padding about it: which places are padding.
func laidOut(a api.Shape, w api.Window) [][]bool {
	var plane [][]bool
	for y := range w.Top + a.H + w.Bottom {
		line := make([]bool, w.Left+a.W+w.Right)
		for x := range line {
			line[x] = y < w.Top || y >= w.Top+a.H || x < w.Left || x >= w.Left+a.W
		}
		plane = append(plane, line)
	}
	return plane
}

// sums are those of the first terms at a position, from none of them on: of
// their least ends, and of their greatest.
type sums struct{ least, greatest []int64 }

func (p *sums) then(a, b int64) {
	j := len(p.least) - 1
	p.least = append(p.least, p.least[j]+min(a, b))
	p.greatest = append(p.greatest, p.greatest[j]+max(a, b))
}

// reading is what the second reading finds of a channel over a span.
type reading struct {
	rows   []sums // of each position
	bias   int64
	length int
}

func read(m api.Model, op, ch int, s api.Span) reading {
	weights, bias := secondWeights(m, op, ch)
	o, a := m.Ops[op-1], secondShape(m, m.Ops[op-1].A)
	if o.Kind == api.Dense {
		o.Win, a.H, a.W = kernel(1, 1, 1, 1), 1, 1
	}
	plane, pad := laidOut(a, o.Win), int64(o.Pad)
	each := len(weights) / (o.Win.KH * o.Win.KW) // terms to a tap
	r := reading{bias: bias, length: len(weights)}
	for top := 0; top+o.Win.KH <= len(plane); top += o.Win.SH {
		for left := 0; left+o.Win.KW <= len(plane[0]); left += o.Win.SW {
			row := sums{[]int64{0}, []int64{0}}
			for i, w := range weights {
				y, x := i/each/o.Win.KW, i/each%o.Win.KW
				if plane[top+y][left+x] {
					row.then(int64(w)*pad, int64(w)*pad)
				} else {
					row.then(int64(w)*s.Lo, int64(w)*s.Hi)
				}
			}
			r.rows = append(r.rows, row)
		}
	}
	return r
}

// run holds all running sums, total the last of them alone.
func (r reading) run() api.Span {
	all := none()
	for _, row := range r.rows {
		all.take(r.bias + slices.Min(row.least))
		all.take(r.bias + slices.Max(row.least))
		all.take(r.bias + slices.Min(row.greatest))
		all.take(r.bias + slices.Max(row.greatest))
	}
	return api.Span(all)
}

func (r reading) total() api.Span {
	all := none()
	for _, row := range r.rows {
		all.take(r.bias+row.least[r.length], r.bias+row.greatest[r.length])
	}
	return api.Span(all)
}

// part holds what blocks of that depth come to, and every single term.
func (r reading) part(depth int) api.Span {
	all := none()
	for _, row := range r.rows {
		for j := range r.length {
			for _, ahead := range []int{j / depth * depth, j} {
				all.take(row.least[j+1]-row.least[ahead], row.greatest[j+1]-row.greatest[ahead])
			}
		}
	}
	return api.Span(all)
}

func isInt16(n int64) bool { return n == int64(int16(n)) }

func isInt32(n int64) bool { return n == int64(int32(n)) }

// both: is it so at both ends?
func both(s api.Span, is func(int64) bool) bool { return is(s.Lo) && is(s.Hi) }

// holds: does one span hold the other?
func holds(a, b api.Span) bool { return b.Lo <= b.Hi && a.Lo <= b.Lo && b.Hi <= a.Hi }

// halfAway is the quotient of two numbers, the second above 0, rounded.
func halfAway(over, under *big.Int) *big.Int {
	twice := new(big.Int).Abs(over)
	twice.Lsh(twice, 1).Add(twice, under)
	twice.Quo(twice, new(big.Int).Lsh(under, 1))
	if over.Sign() < 0 {
		twice.Neg(twice)
	}
	return twice
}

func whole(n int64) *big.Int { return big.NewInt(n) }

func secondScale(n int64, s api.Scale) *big.Int {
	return halfAway(new(big.Int).Mul(whole(n), whole(int64(s.Mult))), new(big.Int).Lsh(whole(1), uint(s.Shift)))
}

// secondFinish brings what was made so far to the op's range.
func secondFinish(v *big.Int, zero int, op api.Op) int64 {
	v = new(big.Int).Add(v, whole(int64(zero)))
	if v.Cmp(whole(int64(op.Lo))) < 0 {
		return int64(op.Lo)
	}
	if v.Cmp(whole(int64(op.Hi))) > 0 {
		return int64(op.Hi)
	}
	return v.Int64()
}

// numbersIn are all that a span holds.
func numbersIn(s api.Span) []int64 {
	var list []int64
	for n := s.Lo; n <= s.Hi; n++ {
		list = append(list, n)
	}
	return list
}

// secondComes is the span that comes of an op, r being spans of values.
func secondComes(m api.Model, op int, r []api.Span) api.Span {
	o := m.Ops[op-1]
	made := none()
	switch o.Kind {
	case api.Dense, api.Conv, api.Depthwise:
		for ch := range secondChannels(m, op) {
			total := read(m, op, ch+1, r[o.A]).total()
			made.take(secondFinish(secondScale(total.Lo, o.SA), o.Zero, o), secondFinish(secondScale(total.Hi, o.SA), o.Zero, o))
		}
	case api.Average:
		for ch := range secondChannels(m, op) {
			total, terms := read(m, op, ch+1, r[o.A]).total(), whole(int64(o.Win.KH*o.Win.KW))
			made.take(secondFinish(halfAway(whole(total.Lo), terms), 0, o), secondFinish(halfAway(whole(total.Hi), terms), 0, o))
		}
	case api.Max, api.Clamp:
		for _, n := range numbersIn(r[o.A]) {
			made.take(secondFinish(whole(n), 0, o))
		}
	case api.Rescale:
		for _, n := range numbersIn(r[o.A]) {
			made.take(secondFinish(secondScale(n, o.SA), o.Zero, o))
		}
	case api.Add:
		a, b := none(), none()
		for _, n := range numbersIn(r[o.A]) {
			a.take(secondScale(n, o.SA).Int64())
		}
		for _, n := range numbersIn(r[o.B]) {
			b.take(secondScale(n, o.SB).Int64())
		}
		made.take(secondFinish(whole(a.Lo+b.Lo), o.Zero, o), secondFinish(whole(a.Hi+b.Hi), o.Zero, o))
	}
	return api.Span(made)
}

// safe are all depths that are.
func (r reading) safe() []int {
	var all []int
	for depth := range r.length + 1 {
		if depth > 0 && both(r.part(depth), isInt16) {
			all = append(all, depth)
		}
	}
	return all
}

// claiming is the plan of that width and depth that claims no more than it
// must.
func (r reading) claiming(width, depth int) api.Chan {
	part := r.run()
	if width == 16 {
		part = r.part(depth)
	}
	return api.Chan{Width: width, Depth: depth, Part: part, Total: r.total()}
}

// best is the plan with the narrowest register and the greatest depth.
func (r reading) best() api.Chan {
	if safe := r.safe(); len(safe) > 0 {
		return r.claiming(16, slices.Max(safe))
	}
	return r.claiming(32, r.length)
}

// secondSpread is a span for each tensor of a well-formed model.
func secondSpread(m api.Model) []api.Span {
	ranges := list(span(int64(m.Lo), int64(m.Hi)))
	for op := 1; op <= len(m.Ops); op++ {
		ranges = append(ranges, secondComes(m, op, ranges))
	}
	return ranges
}

// tooWide are the places of a well-formed model whose running sums aren't of 32
// bits, the last one first.
func tooWide(m api.Model) []place {
	var all []place
	ranges := secondSpread(m)
	for _, at := range slices.Backward(places(m)) {
		if !both(read(m, at.op, at.ch, ranges[m.Ops[at.op-1].A]).run(), isInt32) {
			all = append(all, at)
		}
	}
	return all
}

// secondFits is what Fits ought to answer.
func secondFits(m api.Model) api.Fault {
	if f := model.Check(m); f != (api.Fault{}) {
		return f
	}
	if all := tooWide(m); len(all) > 0 {
		return all[len(all)-1].fault(154)
	}
	return api.Fault{}
}

// secondPlan is what Plan ought to answer of a model that fits.
func secondPlan(m api.Model) api.Cert {
	c := api.Cert{Ranges: secondSpread(m), Plans: make([][]api.Chan, len(m.Ops))}
	for _, at := range slices.Backward(places(m)) {
		r := read(m, at.op, at.ch, c.Ranges[m.Ops[at.op-1].A])
		c.Plans[at.op-1] = append([]api.Chan{r.best()}, c.Plans[at.op-1]...)
	}
	return c
}

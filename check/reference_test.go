package check_test

import (
	"math"
	"math/big"
	"slices"

	"spillway/api"
	"spillway/model"
)

// What follows reads the chapter a second time, in another way, and asks none
// of the layers below but layer 8, which models are well-formed: the plane is
// laid out with its padding about it and the window slid over that; the sum of
// any terms in a row is what stands behind them less what stands ahead of them;
// quotients are rounded in whole numbers without end, and each sum, or each
// number of a span, is brought to its end by itself; all errors and faults that
// apply are gathered, back to front, and the one of the lowest rank is taken.

// gathered is the hull of the numbers that it has taken.
type gathered api.Span

func none() gathered { return gathered{math.MaxInt64, math.MinInt64} }

func (g *gathered) take(numbers ...int64) {
	for _, n := range numbers {
		g.Lo, g.Hi = min(g.Lo, n), max(g.Hi, n)
	}
}

// secondShape is that of a tensor of a well-formed model.
func secondShape(m api.Model, tensor int) api.Shape {
	if tensor == 0 {
		return m.In
	}
	op := m.Ops[tensor-1]
	made := secondShape(m, op.A)
	switch op.Kind {
	case api.Dense:
		return of(1, 1, op.M)
	case api.Conv:
		made.C = op.M
		fallthrough
	case api.Depthwise, api.Average, api.Max:
		made.H = slid(op.Win.Top+made.H+op.Win.Bottom, op.Win.KH, op.Win.SH)
		made.W = slid(op.Win.Left+made.W+op.Win.Right, op.Win.KW, op.Win.SW)
	}
	return made
}

// slid counts where a window stands along a side, its padding counted.
func slid(side, size, step int) int {
	n := 0
	for at := 0; at+size <= side; at += step {
		n++
	}
	return n
}

// secondChannels are how many plans an op's list ought to have.
func secondChannels(m api.Model, op int) int {
	if m.Ops[op-1].Kind > 4 {
		return 0
	}
	return secondShape(m, op).C
}

// secondWeights are the weights and the bias of a channel of an op that
// reduces.
func secondWeights(m api.Model, op, ch int) ([]int16, int64) {
	o := m.Ops[op-1]
	if o.Kind == api.Average {
		return slices.Repeat([]int16{1}, o.Win.KH*o.Win.KW), 0
	}
	pieces := slices.Collect(slices.Chunk(o.Weights, len(o.Weights)/secondChannels(m, op)))
	return pieces[ch-1], int64(o.Bias[ch-1])
}

// laidOut is the plane with its padding about it: which places are padding.
func laidOut(a api.Shape, w api.Window) [][]bool {
	var plane [][]bool
	for y := range w.Top + a.H + w.Bottom {
		line := make([]bool, w.Left+a.W+w.Right)
		for x := range line {
			line[x] = y < w.Top || y >= w.Top+a.H || x < w.Left || x >= w.Left+a.W
		}
		plane = append(plane, line)
	}
	return plane
}

// sums are those of the first terms at a position, from none of them on: of
// their least ends, and of their greatest.
type sums struct{ least, greatest []int64 }

func (p *sums) then(a, b int64) {
	j := len(p.least) - 1
	p.least = append(p.least, p.least[j]+min(a, b))
	p.greatest = append(p.greatest, p.greatest[j]+max(a, b))
}

// reading is what the second reading finds of a channel over a span.
type reading struct {
	rows   []sums // of each position
	bias   int64
	length int
}

func read(m api.Model, op, ch int, s api.Span) reading {
	weights, bias := secondWeights(m, op, ch)
	o, a := m.Ops[op-1], secondShape(m, m.Ops[op-1].A)
	if o.Kind == api.Dense {
		o.Win, a.H, a.W = kernel(1, 1, 1, 1), 1, 1
	}
	plane, pad := laidOut(a, o.Win), int64(o.Pad)
	each := len(weights) / (o.Win.KH * o.Win.KW) // terms to a tap
	r := reading{bias: bias, length: len(weights)}
	for top := 0; top+o.Win.KH <= len(plane); top += o.Win.SH {
		for left := 0; left+o.Win.KW <= len(plane[0]); left += o.Win.SW {
			row := sums{[]int64{0}, []int64{0}}
			for i, w := range weights {
				y, x := i/each/o.Win.KW, i/each%o.Win.KW
				if plane[top+y][left+x] {
					row.then(int64(w)*pad, int64(w)*pad)
				} else {
					row.then(int64(w)*s.Lo, int64(w)*s.Hi)
				}
			}
			r.rows = append(r.rows, row)
		}
	}
	return r
}

// run holds all running sums, total the last of them alone.
func (r reading) run() api.Span {
	all := none()
	for _, row := range r.rows {
		all.take(r.bias + slices.Min(row.least))
		all.take(r.bias + slices.Max(row.least))
		all.take(r.bias + slices.Min(row.greatest))
		all.take(r.bias + slices.Max(row.greatest))
	}
	return api.Span(all)
}

func (r reading) total() api.Span {
	all := none()
	for _, row := range r.rows {
		all.take(r.bias+row.least[r.length], r.bias+row.greatest[r.length])
	}
	return api.Span(all)
}

// part holds what blocks of that depth come to, and every single term.
func (r reading) part(depth int) api.Span {
	all := none()
	for _, row := range r.rows {
		for j := range r.length {
			for _, ahead := range []int{j / depth * depth, j} {
				all.take(row.least[j+1]-row.least[ahead], row.greatest[j+1]-row.greatest[ahead])
			}
		}
	}
	return api.Span(all)
}

func isInt16(n int64) bool { return n == int64(int16(n)) }

func isInt32(n int64) bool { return n == int64(int32(n)) }

// both: is it so at both ends?
func both(s api.Span, is func(int64) bool) bool { return is(s.Lo) && is(s.Hi) }

// holds: does one span hold the other?
func holds(a, b api.Span) bool { return b.Lo <= b.Hi && a.Lo <= b.Lo && b.Hi <= a.Hi }

// errorsInOrder are a plan's, in the chapter's order.
func errorsInOrder() []api.Errno { return []api.Errno{30, 150, 151, 154, 152, 153} }

// errors are all that apply to the plan, in the chapter's order.
func (r reading) errors(p api.Chan) []api.Errno {
	apply := map[api.Errno]bool{}
	apply[153] = !holds(p.Total, r.total())
	fits := isInt32
	depths := []int{r.length}
	if p.Width == 16 {
		fits = isInt16
		depths = nil
		for k := range r.length {
			depths = append(depths, k+1)
		}
	}
	apply[151] = p.Depth <= 0 || p.Depth > r.length || p.Width == 32 && p.Depth < r.length
	if p.Width == 32 {
		apply[152] = !holds(p.Part, r.run())
	} else if p.Width == 16 && slices.Contains(depths, p.Depth) {
		apply[152] = !holds(p.Part, r.part(p.Depth))
	}
	apply[154] = !both(r.run(), isInt32) || !both(p.Part, fits) || !both(p.Total, isInt32)
	apply[150] = p.Width != 32 && p.Width != 16
	apply[30] = p.Part.Lo > p.Part.Hi || p.Total.Lo > p.Total.Hi
	return slices.DeleteFunc(errorsInOrder(), func(e api.Errno) bool { return !apply[e] })
}

// error is the first of them.
func (r reading) error(p api.Chan) api.Errno {
	return append(r.errors(p), api.OK)[0]
}

// aheadOfPlan is the error that stands ahead of a plan's.
func aheadOfPlan(m api.Model, op, ch int, s api.Span) api.Errno {
	if f := model.Check(m); f != (api.Fault{}) {
		return f.Err
	}
	if op <= 0 || op-1 >= len(m.Ops) {
		return 3
	}
	if m.Ops[op-1].Kind > 4 {
		return 81
	}
	if ch <= 0 || ch-1 >= secondChannels(m, op) {
		return 3
	}
	if s.Lo < -128 || s.Hi > 127 || s.Lo > s.Hi {
		return 30
	}
	return 0
}

// secondChan is what Chan ought to answer.
func secondChan(m api.Model, op, ch int, s api.Span, p api.Chan) api.Errno {
	if e := aheadOfPlan(m, op, ch, s); e != api.OK {
		return e
	}
	return read(m, op, ch, s).error(p)
}

// halfAway is the quotient of two numbers, the second above 0, rounded.
func halfAway(over, under *big.Int) *big.Int {
	twice := new(big.Int).Abs(over)
	twice.Lsh(twice, 1).Add(twice, under)
	twice.Quo(twice, new(big.Int).Lsh(under, 1))
	if over.Sign() < 0 {
		twice.Neg(twice)
	}
	return twice
}

func whole(n int64) *big.Int { return big.NewInt(n) }

func secondScale(n int64, s api.Scale) *big.Int {
	return halfAway(new(big.Int).Mul(whole(n), whole(int64(s.Mult))), new(big.Int).Lsh(whole(1), uint(s.Shift)))
}

// secondFinish brings what was made so far to the op's range.
func secondFinish(v *big.Int, zero int, op api.Op) int64 {
	v = new(big.Int).Add(v, whole(int64(zero)))
	if v.Cmp(whole(int64(op.Lo))) < 0 {
		return int64(op.Lo)
	}
	if v.Cmp(whole(int64(op.Hi))) > 0 {
		return int64(op.Hi)
	}
	return v.Int64()
}

// numbersIn are all that a span holds.
func numbersIn(s api.Span) []int64 {
	var list []int64
	for n := s.Lo; n <= s.Hi; n++ {
		list = append(list, n)
	}
	return list
}

// secondComes is the span that comes of an op, r being spans of values.
func secondComes(m api.Model, op int, r []api.Span) api.Span {
	o := m.Ops[op-1]
	made := none()
	switch o.Kind {
	case api.Dense, api.Conv, api.Depthwise:
		for ch := range secondChannels(m, op) {
			total := read(m, op, ch+1, r[o.A]).total()
			made.take(secondFinish(secondScale(total.Lo, o.SA), o.Zero, o), secondFinish(secondScale(total.Hi, o.SA), o.Zero, o))
		}
	case api.Average:
		for ch := range secondChannels(m, op) {
			total, terms := read(m, op, ch+1, r[o.A]).total(), whole(int64(o.Win.KH*o.Win.KW))
			made.take(secondFinish(halfAway(whole(total.Lo), terms), 0, o), secondFinish(halfAway(whole(total.Hi), terms), 0, o))
		}
	case api.Max, api.Clamp:
		for _, n := range numbersIn(r[o.A]) {
			made.take(secondFinish(whole(n), 0, o))
		}
	case api.Rescale:
		for _, n := range numbersIn(r[o.A]) {
			made.take(secondFinish(secondScale(n, o.SA), o.Zero, o))
		}
	case api.Add:
		a, b := none(), none()
		for _, n := range numbersIn(r[o.A]) {
			a.take(secondScale(n, o.SA).Int64())
		}
		for _, n := range numbersIn(r[o.B]) {
			b.take(secondScale(n, o.SB).Int64())
		}
		made.take(secondFinish(whole(a.Lo+b.Lo), o.Zero, o), secondFinish(whole(a.Hi+b.Hi), o.Zero, o))
	}
	return api.Span(made)
}

// ranked is a fault that applies, and the numbers by which it comes ahead of
// others.
type ranked struct {
	rank  []int
	fault api.Fault
}

// foremost is the fault of the lowest rank, or none.
func foremost(all []ranked) api.Fault {
	if len(all) == 0 {
		return api.Fault{}
	}
	return slices.MinFunc(all, func(a, b ranked) int { return slices.Compare(a.rank, b.rank) }).fault
}

// faultsOfForm are all that chapter 15 has of a certificate for a well-formed
// model.
func faultsOfForm(m api.Model, c api.Cert) []ranked {
	var all []ranked
	if len(c.Ranges)-1 != len(m.Ops) || len(c.Plans) != len(m.Ops) {
		all = append(all, ranked{[]int{1}, api.Fault{Err: 70}})
	}
	for n, s := range slices.Backward(c.Ranges) {
		if s.Lo > s.Hi || s.Lo < -128 || s.Hi > 127 {
			all = append(all, ranked{[]int{2, n}, api.Fault{Err: 30, Op: n}})
		}
	}
	for i, plans := range slices.Backward(c.Plans) {
		if i < len(m.Ops) && len(plans) != secondChannels(m, i+1) {
			all = append(all, ranked{[]int{3, i, 0}, api.Fault{Err: 70, Op: i + 1}})
		}
		for k, p := range slices.Backward(plans) {
			if p.Part.Lo > p.Part.Hi || p.Total.Lo > p.Total.Hi {
				all = append(all, ranked{[]int{3, i, 1, k}, api.Fault{Err: 30, Op: i + 1, Chan: k + 1}})
			}
		}
	}
	return all
}

// faultsOfClaims are all that the chapter has of a certificate that has the
// model's form.
func faultsOfClaims(m api.Model, c api.Cert) []ranked {
	var all []ranked
	for i, plans := range slices.Backward(c.Plans) {
		op := i + 1
		if !holds(c.Ranges[op], secondComes(m, op, c.Ranges)) {
			all = append(all, ranked{[]int{op, 1}, api.Fault{Err: 155, Op: op}})
		}
		for k, p := range slices.Backward(plans) {
			if e := read(m, op, k+1, c.Ranges[m.Ops[i].A]).error(p); e != api.OK {
				all = append(all, ranked{[]int{op, 0, k}, api.Fault{Err: e, Op: op, Chan: k + 1}})
			}
		}
	}
	if c.Ranges[0].Lo > int64(m.Lo) || c.Ranges[0].Hi < int64(m.Hi) {
		all = append(all, ranked{[]int{0}, api.Fault{Err: 155}})
	}
	return all
}

// secondCheck is what Check ought to answer.
func secondCheck(m api.Model, c api.Cert) api.Fault {
	if f := model.Check(m); f != (api.Fault{}) {
		return f
	}
	if all := faultsOfForm(m, c); len(all) > 0 {
		return foremost(all)
	}
	return foremost(faultsOfClaims(m, c))
}

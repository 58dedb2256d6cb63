package terms_test

import (
	"spillway/api"
	"spillway/model"
)

// What follows reads the chapters a second time, the other way round where it
// can: stops are counted one by one, and each place of tensor A asks which term
// of the sum goes with it, where the program asks each tap for its place.

// counts are an op's length, channels and positions.
type counts struct{ length, channels, positions int }

// stopsAlong counts where a window can stand along a side.
func stopsAlong(side, size, step, ahead, behind int) int {
	n := 0
	for first := -ahead; first+size <= side+behind; first += step {
		n++
	}
	return n
}

// shapeOf a tensor of a well-formed model.
func shapeOf(m api.Model, tensor int) api.Shape {
	if tensor == 0 {
		return m.In
	}
	op := m.Ops[tensor-1]
	s := shapeOf(m, op.A)
	w := op.Win
	switch op.Kind {
	case api.Dense:
		return api.Shape{H: 1, W: 1, C: op.M}
	case api.Conv, api.Depthwise, api.Average, api.Max:
		if op.Kind == api.Conv {
			s.C = op.M
		}
		s.H = stopsAlong(s.H, w.KH, w.SH, w.Top, w.Bottom)
		s.W = stopsAlong(s.W, w.KW, w.SW, w.Left, w.Right)
	}
	return s
}

// reduces: which kinds the document names.
func reduces(kind int) bool { return 1 <= kind && kind <= 4 }

// secondCounts is what Length, Channels and Positions ought to answer.
func secondCounts(m api.Model, op int) (counts, api.Errno) {
	if f := model.Check(m); f != (api.Fault{}) {
		return counts{}, f.Err
	}
	if op <= 0 || op-1 >= len(m.Ops) {
		return counts{}, api.ErrPlace
	}
	o := m.Ops[op-1]
	if !reduces(o.Kind) {
		return counts{}, api.ErrKind
	}
	made, a := shapeOf(m, op), shapeOf(m, o.A)
	c := counts{channels: made.C, positions: made.H * made.W}
	switch o.Kind {
	case api.Dense:
		c.length = len(o.Weights) / o.M
	case api.Conv:
		c.length = o.Win.KH * o.Win.KW * a.C
	case api.Depthwise, api.Average:
		c.length = o.Win.KH * o.Win.KW
	}
	return c, api.OK
}

// second is what Of ought to answer.
func second(m api.Model, op, ch, at int) ([]api.Term, int64, api.Errno) {
	c, e := secondCounts(m, op)
	if e != api.OK {
		return nil, 0, e
	}
	if ch <= 0 || ch-1 >= c.channels {
		return nil, 0, api.ErrPlace
	}
	if at < 0 || at >= c.positions {
		return nil, 0, api.ErrPlace
	}
	o := m.Ops[op-1]
	list := make([]api.Term, c.length)
	for i := range list {
		list[i] = api.Term{W: 1, At: -1}
		if o.Kind != api.Average {
			// Each channel's weights stand behind those of the channels ahead.
			list[i].W = int(o.Weights[len(o.Weights)/c.channels*(ch-1):][i])
		}
	}
	a := shapeOf(m, o.A)
	for place := range a.H * a.W * a.C {
		if i := termAt(o, a, shapeOf(m, op).W, ch, at, place); i >= 0 {
			list[i].At = place
		}
	}
	if o.Kind == api.Average {
		return list, 0, api.OK
	}
	return list, int64(o.Bias[ch-1]), api.OK
}

// termAt is the number of the term that goes with a place of tensor A, or -1:
// width is that of the tensor that the op makes.
func termAt(o api.Op, a api.Shape, width, ch, at, place int) int {
	if o.Kind == api.Dense {
		return place
	}
	c := place % a.C
	y, x := place/a.C/a.W, place/a.C%a.W
	row := y + o.Win.Top - at/width*o.Win.SH
	column := x + o.Win.Left - at%width*o.Win.SW
	if row < 0 || row >= o.Win.KH || column < 0 || column >= o.Win.KW {
		return -1
	}
	tap := row*o.Win.KW + column
	if o.Kind == api.Conv {
		return tap*a.C + c
	}
	if c != ch-1 {
		return -1
	}
	return tap
}

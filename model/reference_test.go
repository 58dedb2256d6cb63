package model_test

import (
	"math/big"

	"spillway/api"
)

// verdict is all that a model is asked for.
type verdict struct {
	fault  api.Fault
	shapes []api.Shape
	work   int
}

// words says which fields a kind uses, as the table of DOC.md has it.
var words = map[int]string{
	api.Dense:     " A M Weights Bias SA Zero ",
	api.Conv:      " A M Win Padding Weights Bias SA Zero Pad ",
	api.Depthwise: " A Win Padding Weights Bias SA Zero Pad ",
	api.Average:   " A Win ",
	api.Max:       " A Win ",
	api.Add:       " A B SA SB Zero ",
	api.Rescale:   " A SA Zero ",
	api.Clamp:     " A ",
}

func product(factors ...int) *big.Int {
	p := big.NewInt(1)
	for _, f := range factors {
		p.Mul(p, big.NewInt(int64(f)))
	}
	return p
}

func above(p *big.Int, limit int) bool { return p.Cmp(big.NewInt(int64(limit))) > 0 }

func within(n, least, most int) bool { return n >= least && n <= most }

func shapeStands(s api.Shape) bool {
	return within(s.H, 1, 1024) && within(s.W, 1, 1024) && within(s.C, 1, 1024) && !above(product(s.H, s.W, s.C), 16384)
}

func scaleStands(s api.Scale) bool {
	return within(s.Mult, 1, 1<<31-1) && within(s.Shift, 0, 62)
}

func windowStands(w api.Window) bool {
	return within(w.KH, 1, 32) && within(w.KW, 1, 32) && within(w.SH, 1, 32) && within(w.SW, 1, 32) &&
		within(w.Top, 0, w.KH-1) && within(w.Bottom, 0, w.KH-1) && within(w.Left, 0, w.KW-1) && within(w.Right, 0, w.KW-1)
}

// pushed counts the places of a window along a side by pushing it on.
func pushed(side, size, step int) int {
	n := 0
	for from := 0; from+size <= side; from += step {
		n++
	}
	return n
}

// judge is what the chapter says of a model, read line by line: a fault has a
// number there, and the lines are asked in their order.
func judge(m api.Model) verdict {
	for _, line := range []struct {
		applies bool
		err     api.Errno
	}{
		{!shapeStands(m.In), 50},
		{!(within(m.Lo, -128, 127) && within(m.Hi, -128, 127) && m.Lo <= m.Hi), 85},
		{len(m.Ops) > 64, 80},
		{!within(m.Out, 0, len(m.Ops)), 3},
	} {
		if line.applies {
			return verdict{fault: api.Fault{Err: line.err}}
		}
	}
	v := verdict{shapes: []api.Shape{m.In}}
	work := big.NewInt(0)
	for i, op := range m.Ops {
		made, e := judgeOp(op, i+1, v.shapes, work)
		if e != 0 {
			return verdict{fault: api.Fault{Err: e, Op: i + 1}}
		}
		v.shapes = append(v.shapes, made)
	}
	v.work = int(work.Int64())
	return v
}

// judgeOp is the shape that the op number n makes, or its fault; its work is
// added to work.
func judgeOp(op api.Op, n int, shapes []api.Shape, work *big.Int) (api.Shape, api.Errno) {
	none := api.Shape{}
	k := op.Kind
	if !within(k, 1, 8) {
		return none, 81
	}
	if !within(op.A, 0, n-1) || k == 6 && !within(op.B, 0, n-1) {
		return none, 82
	}
	if len(fieldsBeside(op)) > 0 {
		return none, 83
	}
	if (k == 1 || k == 2) && !within(op.M, 1, 1024) {
		return none, 2
	}
	a := shapes[op.A]
	made := a
	if k == 1 {
		made = api.Shape{H: 1, W: 1, C: op.M}
	}
	if within(k, 2, 5) {
		if !windowStands(op.Win) {
			return none, 60
		}
		made.H = pushed(a.H+op.Win.Top+op.Win.Bottom, op.Win.KH, op.Win.SH)
		made.W = pushed(a.W+op.Win.Left+op.Win.Right, op.Win.KW, op.Win.SW)
		if made.H == 0 || made.W == 0 {
			return none, 60
		}
		if k == 2 {
			made.C = op.M
		}
	}
	if k == 6 && a != shapes[op.B] || !shapeStands(made) {
		return none, 50
	}
	length := map[int]*big.Int{
		1: product(a.H, a.W, a.C), 2: product(op.Win.KH, op.Win.KW, a.C),
		3: product(op.Win.KH, op.Win.KW), 4: product(op.Win.KH, op.Win.KW),
	}[k]
	if length != nil && above(length, 512) {
		return none, 84
	}
	if e := judgeNumbers(op, made, length); e != 0 {
		return none, e
	}
	mine := product(made.H, made.W, made.C)
	if length != nil {
		mine.Mul(mine, length)
	}
	if k == 5 {
		mine.Mul(mine, product(op.Win.KH, op.Win.KW))
	}
	if above(work.Add(work, mine), 131072) {
		return none, 86
	}
	return made, 0
}

func judgeNumbers(op api.Op, made api.Shape, length *big.Int) api.Errno {
	weights, bias := 0, 0
	if within(op.Kind, 1, 3) {
		weights, bias = made.C*int(length.Int64()), made.C
	}
	if len(op.Weights) != weights || len(op.Bias) != bias {
		return 70
	}
	switch op.Kind {
	case 6:
		if !scaleStands(op.SB) {
			return 20
		}
		fallthrough
	case 1, 2, 3, 7:
		if !scaleStands(op.SA) {
			return 20
		}
	}
	for _, x := range []int{op.Lo, op.Hi, op.Zero, op.Pad} {
		if !within(x, -128, 127) {
			return 85
		}
	}
	if op.Lo > op.Hi {
		return 85
	}
	return 0
}

package plain_test

import (
	"math/big"

	"spillway/api"
	"spillway/model"
)

// What follows reads the chapter a second time, in another way: a tensor is
// drawn as rows of columns of channels, padding is drawn about it, a window is
// pushed over the drawing, and all is worked out in whole numbers without end.
// Which models are well-formed it asks layer 8.

// grid is a tensor: its rows, their columns, their channels.
type grid [][][]int64

func draw(list []int8, s api.Shape) grid {
	g := make(grid, s.H)
	for y := range g {
		g[y] = make([][]int64, s.W)
		for x := range g[y] {
			for range s.C {
				g[y][x] = append(g[y][x], int64(list[0]))
				list = list[1:]
			}
		}
	}
	return g
}

// flat are all numbers of the grid, row by row.
func (g grid) flat() []int64 {
	var list []int64
	for _, row := range g {
		for _, column := range row {
			list = append(list, column...)
		}
	}
	return list
}

func (g grid) shape() api.Shape { return of(len(g), len(g[0]), len(g[0][0])) }

// framed is the grid with padding about it.
func (g grid) framed(w api.Window, pad int) grid {
	s := g.shape()
	var framed grid
	for y := -w.Top; y < s.H+w.Bottom; y++ {
		var row [][]int64
		for x := -w.Left; x < s.W+w.Right; x++ {
			column := make([]int64, s.C)
			for c := range column {
				column[c] = int64(pad)
				if y >= 0 && y < s.H && x >= 0 && x < s.W {
					column[c] = g[y][x][c]
				}
			}
			row = append(row, column)
		}
		framed = append(framed, row)
	}
	return framed
}

// cut is the part of the grid that begins at a row and a column.
func (g grid) cut(top, left, rows, columns int) grid {
	var part grid
	for _, row := range g[top : top+rows] {
		part = append(part, row[left:left+columns])
	}
	return part
}

// channel is the grid with that channel only.
func (g grid) channel(c int) grid {
	var only grid
	for _, row := range g {
		var columns [][]int64
		for _, column := range row {
			columns = append(columns, column[c:c+1])
		}
		only = append(only, columns)
	}
	return only
}

// stops are what an op's window covers at each of its positions, in their
// order, and how many rows and columns of them there are.
func stops(op api.Op, a grid) (parts []grid, rows, columns int) {
	framed := a.framed(op.Win, op.Pad)
	s := framed.shape()
	for top := 0; top+op.Win.KH <= s.H; top += op.Win.SH {
		rows, columns = rows+1, 0
		for left := 0; left+op.Win.KW <= s.W; left += op.Win.SW {
			columns++
			parts = append(parts, framed.cut(top, left, op.Win.KH, op.Win.KW))
		}
	}
	return parts, rows, columns
}

// weighed is a channel's sum over numbers that its weights go with one by one.
func weighed(op api.Op, c int, numbers []int64) *big.Int {
	sum := big.NewInt(int64(op.Bias[c]))
	for i, n := range numbers {
		w := int64(op.Weights[c*len(numbers)+i])
		sum.Add(sum, new(big.Int).Mul(big.NewInt(w), big.NewInt(n)))
	}
	return sum
}

// added are numbers added up.
func added(numbers []int64) *big.Int {
	sum := new(big.Int)
	for _, n := range numbers {
		sum.Add(sum, big.NewInt(n))
	}
	return sum
}

// secondSums are the sums of an op that reduces, in the order of the places
// that they make, and the shape that they have.
func secondSums(op api.Op, a grid) ([]*big.Int, api.Shape) {
	var sums []*big.Int
	if op.Kind == api.Dense {
		for c := range op.M {
			sums = append(sums, weighed(op, c, a.flat()))
		}
		return sums, of(1, 1, op.M)
	}
	parts, rows, columns := stops(op, a)
	channels := a.shape().C
	if op.Kind == api.Conv {
		channels = op.M
	}
	for _, part := range parts {
		for c := range channels {
			switch op.Kind {
			case api.Conv:
				sums = append(sums, weighed(op, c, part.flat()))
			case api.Depthwise:
				sums = append(sums, weighed(op, c, part.channel(c).flat()))
			case api.Average:
				sums = append(sums, added(part.channel(c).flat()))
			}
		}
	}
	return sums, of(rows, columns, channels)
}

// rounded is n / d, half away from zero: the distance from zero, half a d
// further, cut down.
func rounded(n, d *big.Int) *big.Int {
	twice := new(big.Int).Lsh(new(big.Int).Abs(n), 1)
	twice.Add(twice, d)
	twice.Quo(twice, new(big.Int).Lsh(d, 1))
	if n.Sign() < 0 {
		twice.Neg(twice)
	}
	return twice
}

func secondApply(n *big.Int, s api.Scale) *big.Int {
	product := new(big.Int).Mul(n, big.NewInt(int64(s.Mult)))
	return rounded(product, new(big.Int).Lsh(big.NewInt(1), uint(s.Shift)))
}

func secondFinish(v *big.Int, zero int, op api.Op) int8 {
	moved := new(big.Int).Add(v, big.NewInt(int64(zero)))
	switch {
	case moved.Cmp(big.NewInt(int64(op.Hi))) > 0:
		return int8(op.Hi)
	case moved.Cmp(big.NewInt(int64(op.Lo))) < 0:
		return int8(op.Lo)
	}
	return int8(moved.Int64())
}

// secondMade is the tensor that an op makes, and its shape.
func secondMade(op api.Op, a, b grid) ([]int8, api.Shape) {
	var made []int8
	finish := func(v *big.Int, zero int) { made = append(made, secondFinish(v, zero, op)) }
	switch op.Kind {
	case api.Dense, api.Conv, api.Depthwise, api.Average:
		sums, s := secondSums(op, a)
		for _, sum := range sums {
			if op.Kind == api.Average {
				finish(rounded(sum, big.NewInt(int64(op.Win.KH*op.Win.KW))), 0)
			} else {
				finish(secondApply(sum, op.SA), op.Zero)
			}
		}
		return made, s
	case api.Max:
		parts, rows, columns := stops(op, a)
		for _, part := range parts {
			for c := range a.shape().C {
				all := part.channel(c).flat()
				most := all[0]
				for _, n := range all {
					if n > most {
						most = n
					}
				}
				finish(big.NewInt(most), 0)
			}
		}
		return made, of(rows, columns, a.shape().C)
	}
	second := b.flat()
	for i, n := range a.flat() {
		v := big.NewInt(n)
		switch op.Kind {
		case api.Add:
			finish(new(big.Int).Add(secondApply(v, op.SA), secondApply(big.NewInt(second[i]), op.SB)), op.Zero)
		case api.Rescale:
			finish(secondApply(v, op.SA), op.Zero)
		case api.Clamp:
			finish(v, 0)
		}
	}
	return made, a.shape()
}

// secondTensors is what Tensors ought to answer; Eval's is tensor Out of it.
func secondTensors(m api.Model, x []int8) ([][]int8, api.Fault) {
	if f := model.Check(m); f != (api.Fault{}) {
		return nil, f
	}
	if len(x) != m.In.H*m.In.W*m.In.C {
		return nil, api.Fault{Err: 220}
	}
	for _, n := range x {
		if !(m.Lo <= int(n) && int(n) <= m.Hi) {
			return nil, api.Fault{Err: 220}
		}
	}
	tensors, grids := [][]int8{x}, []grid{draw(x, m.In)}
	for _, op := range m.Ops {
		made, s := secondMade(op, grids[op.A], grids[op.B])
		tensors, grids = append(tensors, made), append(grids, draw(made, s))
	}
	return tensors, api.Fault{}
}

// secondTotals is what Totals ought to answer.
func secondTotals(m api.Model, op int, a []int8) ([]int64, api.Errno) {
	shapes, f := model.Shapes(m)
	if f != (api.Fault{}) {
		return nil, f.Err
	}
	if op <= 0 || op-1 >= len(m.Ops) {
		return nil, 3
	}
	o := m.Ops[op-1]
	if o.Kind > 4 {
		return nil, 81
	}
	s := shapes[o.A]
	if len(a) != s.H*s.W*s.C {
		return nil, 70
	}
	sums, _ := secondSums(o, draw(a, s))
	var list []int64
	for _, sum := range sums {
		list = append(list, sum.Int64())
	}
	return list, 0
}

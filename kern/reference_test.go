package kern_test

import (
	"cmp"
	"math/big"
	"slices"

	"spillway/api"
	"spillway/model"
)

// What follows reads the chapter a second time, in another way, and asks none
// of the layers below but layer 8, which models are well-formed: a tensor is
// drawn as rows of columns of channels, padding is drawn about it, a window is
// pushed over the drawing; what a register holds is found from the sum of all
// that went into it, not from what it held before; quotients are rounded in
// whole numbers without end; and all faults are gathered, and the foremost
// taken.

// grid is a tensor: its rows, their columns, their channels.
type grid [][][]int64

func draw(list []int8, s api.Shape) grid {
	g := make(grid, s.H)
	for y := range g {
		g[y] = make([][]int64, s.W)
		for x := range g[y] {
			for range s.C {
				g[y][x] = append(g[y][x], int64(list[0]))
				list = list[1:]
			}
		}
	}
	return g
}

// flat are all numbers of the grid, row by row.
func (g grid) flat() []int64 {
	var list []int64
	for _, row := range g {
		for _, column := range row {
			list = append(list, column...)
		}
	}
	return list
}

func (g grid) shape() api.Shape { return of(len(g), len(g[0]), len(g[0][0])) }

// framed is the grid with padding about it.
func (g grid) framed(w api.Window, pad int) grid {
	s := g.shape()
	var framed grid
	for y := -w.Top; y < s.H+w.Bottom; y++ {
		var row [][]int64
		for x := -w.Left; x < s.W+w.Right; x++ {
			column := slices.Repeat([]int64{int64(pad)}, s.C)
			if y >= 0 && y < s.H && x >= 0 && x < s.W {
				column = g[y][x]
			}
			row = append(row, column)
		}
		framed = append(framed, row)
	}
	return framed
}

// cut is the part of the grid that begins at a row and a column.
func (g grid) cut(top, left, rows, columns int) grid {
	var part grid
	for _, row := range g[top : top+rows] {
		part = append(part, row[left:left+columns])
	}
	return part
}

// channel is the grid with that channel only.
func (g grid) channel(c int) grid {
	var only grid
	for _, row := range g {
		var columns [][]int64
		for _, column := range row {
			columns = append(columns, column[c:c+1])
		}
		only = append(only, columns)
	}
	return only
}

// stops are what an op's window covers at each of its positions, in their
// order; a Dense has one, all of it.
func stops(op api.Op, a grid) []grid {
	if op.Kind == api.Dense {
		return []grid{a}
	}
	framed := a.framed(op.Win, op.Pad)
	s := framed.shape()
	var parts []grid
	for top := 0; top+op.Win.KH <= s.H; top += op.Win.SH {
		for left := 0; left+op.Win.KW <= s.W; left += op.Win.SW {
			parts = append(parts, framed.cut(top, left, op.Win.KH, op.Win.KW))
		}
	}
	return parts
}

// ownChannel: does each channel go over the one of its own number alone?
func ownChannel(kind int) bool { return kind != api.Dense && kind != api.Conv }

// sum is what a register is to add up: numbers with their weights, and a bias.
type sum struct {
	ch               int
	bias             int64
	weights, numbers []int64
}

// weighed are the weights and the bias of a channel of an op that reduces.
func weighed(op api.Op, ch, length int) ([]int64, int64) {
	if op.Kind == api.Average {
		return slices.Repeat([]int64{1}, length), 0
	}
	var weights []int64
	for _, w := range op.Weights[(ch-1)*length : ch*length] {
		weights = append(weights, int64(w))
	}
	return weights, int64(op.Bias[ch-1])
}

// secondSums are all sums of an op that reduces, in the order of the places that
// they make.
func secondSums(op api.Op, a grid, channels int) []sum {
	var all []sum
	for _, part := range stops(op, a) {
		for ch := 1; ch <= channels; ch++ {
			s := sum{ch: ch}
			if ownChannel(op.Kind) {
				s.numbers = part.channel(ch - 1).flat()
			} else {
				s.numbers = part.flat()
			}
			s.weights, s.bias = weighed(op, ch, len(s.numbers))
			all = append(all, s)
		}
	}
	return all
}

// residue is the number of so many bits that differs from x by a multiple of
// 2^bits.
func residue(bits uint, x int64) int64 {
	full := int64(1) << bits
	from0 := (x%full + full) % full
	if from0 >= full/2 {
		return from0 - full
	}
	return from0
}

// did is what a register, or many, did: what each of its products and sums came
// to, and how many of them wrapped.
type did struct {
	muls16, adds16, muls32, adds32 []int64
	wraps                          int
}

// products are those of a sum, in so many bits.
func (d *did) products(s sum, bits uint) []int64 {
	var all []int64
	for i, w := range s.weights {
		p := w * s.numbers[i]
		all = append(all, residue(bits, p))
		if all[i] != p {
			d.wraps++
		}
	}
	return all
}

// held is what a register of so many bits holds behind each number that is added
// to it.
func (d *did) held(bits uint, start int64, list []int64) []int64 {
	var all []int64
	whole, before := start, start
	for _, x := range list {
		whole += x
		now := residue(bits, whole)
		if before+x != now {
			d.wraps++
		}
		all, before = append(all, now), now
	}
	return all
}

// gone is what the register holds when a sum has gone through it by that plan.
func (d *did) gone(s sum, p api.Chan) int64 {
	kept := d.products(s, uint(p.Width))
	spilled := kept
	if p.Width == 32 {
		d.muls32 = append(d.muls32, kept...)
	} else {
		d.muls16 = append(d.muls16, kept...)
		spilled = nil
		for block := range slices.Chunk(kept, p.Depth) {
			held := d.held(16, 0, block)
			d.adds16 = append(d.adds16, held...)
			spilled = append(spilled, held[len(held)-1])
		}
	}
	held := d.held(32, s.bias, spilled)
	d.adds32 = append(d.adds32, held...)
	return held[len(held)-1]
}

// ends are the least and the greatest of a list, 0 where it has nothing.
func ends(list []int64) (int, int) {
	if len(list) == 0 {
		return 0, 0
	}
	return int(slices.Min(list)), int(slices.Max(list))
}

func (d *did) track() api.Track {
	t := api.Track{Muls16: len(d.muls16), Adds16: len(d.adds16), Muls32: len(d.muls32), Adds32: len(d.adds32), Wraps: d.wraps}
	t.Low16, t.High16 = ends(d.adds16)
	t.Low32, t.High32 = ends(d.adds32)
	return t
}

func whole(n int64) *big.Int { return big.NewInt(n) }

// halfAway is the quotient of two numbers, the second above 0, rounded.
func halfAway(over, under *big.Int) *big.Int {
	twice := new(big.Int).Abs(over)
	twice.Lsh(twice, 1).Add(twice, under)
	twice.Quo(twice, new(big.Int).Lsh(under, 1))
	if over.Sign() < 0 {
		twice.Neg(twice)
	}
	return twice
}

func secondScale(n int64, s api.Scale) *big.Int {
	return halfAway(new(big.Int).Mul(whole(n), whole(int64(s.Mult))), new(big.Int).Lsh(whole(1), uint(s.Shift)))
}

// secondFinish brings what was made so far to the op's range.
func secondFinish(v *big.Int, zero int, op api.Op) int8 {
	v = new(big.Int).Add(v, whole(int64(zero)))
	if v.Cmp(whole(int64(op.Lo))) < 0 {
		return int8(op.Lo)
	}
	if v.Cmp(whole(int64(op.Hi))) > 0 {
		return int8(op.Hi)
	}
	return int8(v.Int64())
}

// reduced are the numbers that an op makes of what its registers hold, and what
// these did.
func reduced(op api.Op, plans []api.Chan, a grid) ([]int8, api.Track) {
	var made []int8
	var all did
	for _, s := range secondSums(op, a, len(plans)) {
		t := all.gone(s, plans[s.ch-1])
		if op.Kind == api.Average {
			made = append(made, secondFinish(halfAway(whole(t), whole(int64(len(s.numbers)))), 0, op))
		} else {
			made = append(made, secondFinish(secondScale(t, op.SA), op.Zero, op))
		}
	}
	return made, all.track()
}

// others are the numbers that an op makes that doesn't reduce.
func others(op api.Op, a grid, b []int8) []int8 {
	var made []int8
	if op.Kind == api.Max {
		for _, part := range stops(op, a) {
			for c := range a.shape().C {
				made = append(made, secondFinish(whole(slices.Max(part.channel(c).flat())), 0, op))
			}
		}
		return made
	}
	for i, n := range a.flat() {
		switch op.Kind {
		case api.Add:
			v := secondScale(n, op.SA)
			made = append(made, secondFinish(v.Add(v, secondScale(int64(b[i]), op.SB)), op.Zero, op))
		case api.Rescale:
			made = append(made, secondFinish(secondScale(n, op.SA), op.Zero, op))
		case api.Clamp:
			made = append(made, secondFinish(whole(n), 0, op))
		}
	}
	return made
}

// secondShape is that of a tensor of a well-formed model.
func secondShape(m api.Model, tensor int) api.Shape {
	if tensor == 0 {
		return m.In
	}
	op := m.Ops[tensor-1]
	made := secondShape(m, op.A)
	switch op.Kind {
	case api.Dense:
		return of(1, 1, op.M)
	case api.Conv:
		made.C = op.M
		fallthrough
	case api.Depthwise, api.Average, api.Max:
		made.H = slid(op.Win.Top+made.H+op.Win.Bottom, op.Win.KH, op.Win.SH)
		made.W = slid(op.Win.Left+made.W+op.Win.Right, op.Win.KW, op.Win.SW)
	}
	return made
}

// slid counts where a window stands along a side, its padding counted.
func slid(side, size, step int) int {
	n := 0
	for at := 0; at+size <= side; at += step {
		n++
	}
	return n
}

func placesOf(s api.Shape) int { return s.H * s.W * s.C }

// secondChannels are how many plans an op ought to be handed.
func secondChannels(m api.Model, op int) int {
	if m.Ops[op-1].Kind > 4 {
		return 0
	}
	return secondShape(m, op).C
}

// secondLength is an op's length, 0 of one that doesn't reduce.
func secondLength(m api.Model, op int) int {
	o := m.Ops[op-1]
	a := secondShape(m, o.A)
	switch o.Kind {
	case api.Dense:
		return placesOf(a)
	case api.Conv:
		return o.Win.KH * o.Win.KW * a.C
	case api.Depthwise, api.Average:
		return o.Win.KH * o.Win.KW
	}
	return 0
}

// ranked is a fault and its rank: the least one is told.
type ranked struct {
	rank  int
	fault api.Fault
}

// secondFaults are all faults of an op that a well-formed model has.
func secondFaults(q asked) []ranked {
	var all []ranked
	tell := func(rank int, e api.Errno, ch int) {
		all = append(all, ranked{rank, api.Fault{Err: e, Op: q.op, Chan: ch}})
	}
	o, length := q.m.Ops[q.op-1], secondLength(q.m, q.op)
	for i, p := range slices.Backward(q.plans) {
		depths := map[int]bool{16: p.Depth >= 1 && p.Depth <= length, 32: p.Depth == length}
		right, known := depths[p.Width]
		if !known {
			tell(2*i+1, 151-1, i+1)
		}
		if !right {
			tell(2*i+2, 151, i+1)
		}
	}
	if o.Kind == api.Add && len(q.b) != placesOf(secondShape(q.m, o.B)) {
		tell(0, 70, 0)
	}
	if len(q.a) != placesOf(secondShape(q.m, o.A)) || len(q.plans) != secondChannels(q.m, q.op) {
		tell(0, 70, 0)
	}
	return all
}

// secondOp is what Op ought to answer.
func secondOp(q asked) ([]int8, api.Track, api.Fault) {
	if f := model.Check(q.m); f != (api.Fault{}) {
		return nil, api.Track{}, f
	}
	if q.op <= 0 || q.op-1 >= len(q.m.Ops) {
		return nil, api.Track{}, api.Fault{Err: 3}
	}
	if all := secondFaults(q); len(all) > 0 {
		first := slices.MinFunc(all, func(x, y ranked) int { return cmp.Compare(x.rank, y.rank) })
		return nil, api.Track{}, first.fault
	}
	o := q.m.Ops[q.op-1]
	a := draw(q.a, secondShape(q.m, o.A))
	if o.Kind <= 4 {
		made, track := reduced(o, q.plans, a)
		return made, track, api.Fault{}
	}
	return others(o, a, q.b), api.Track{}, api.Fault{}
}

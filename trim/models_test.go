package trim_test

import (
	"math"
	"math/rand"
	"slices"
	"testing"

	"spillway/api"
	"spillway/model"
)

// named is a model that the tests speak of.
type named struct {
	name string
	m    api.Model
}

func of(h, w, c int) api.Shape { return api.Shape{H: h, W: w, C: c} }

// kernel is a window without padding.
func kernel(kh, kw, sh, sw int) api.Window { return api.Window{KH: kh, KW: kw, SH: sh, SW: sw} }

// padded is the window with so much padding at its sides.
func padded(w api.Window, top, left, bottom, right int) api.Window {
	w.Top, w.Left, w.Bottom, w.Right = top, left, bottom, right
	return w
}

// counted are numbers that differ from place to place, so that none can stand
// for another.
func counted[T int16 | int32](n int, from, step T) []T {
	list := make([]T, n)
	for i := range list {
		list[i] = from + T(i)*step
	}
	return list
}

func dense(in api.Shape, m int) api.Op {
	return api.Op{Kind: api.Dense, M: m, Weights: counted[int16](m*in.H*in.W*in.C, -40, 3), Bias: counted[int32](m, 700, -901), SA: api.Scale{Mult: 12345, Shift: 20}, Zero: 5, Lo: -101, Hi: 99}
}

func conv(in api.Shape, m int, win api.Window) api.Op {
	n := win.KH * win.KW * in.C * m
	return api.Op{Kind: api.Conv, M: m, Win: win, Weights: counted[int16](n, 60, -7), Bias: counted[int32](m, -5, 3), SA: api.Scale{Mult: 17, Shift: 13}, Zero: -6, Pad: 17, Lo: -90, Hi: 80}
}

func depthwise(in api.Shape, win api.Window) api.Op {
	n := win.KH * win.KW * in.C
	return api.Op{Kind: api.Depthwise, Win: win, Weights: counted[int16](n, -30, 6), Bias: counted[int32](in.C, 100, 14), SA: api.Scale{Mult: 3, Shift: 8}, Zero: 11, Pad: -12, Lo: -64, Hi: 63}
}

func average(win api.Window) api.Op { return api.Op{Kind: api.Average, Win: win, Lo: -60, Hi: 61} }

func greatest(win api.Window) api.Op { return api.Op{Kind: api.Max, Win: win, Lo: -62, Hi: 65} }

func add(a, b int) api.Op {
	return api.Op{Kind: api.Add, A: a, B: b, SA: api.Scale{Mult: 5, Shift: 3}, SB: api.Scale{Mult: 50, Shift: 7}, Zero: -6, Lo: -67, Hi: 68}
}

func rescale() api.Op {
	return api.Op{Kind: api.Rescale, SA: api.Scale{Mult: 3 << 20, Shift: 22}, Zero: 9, Lo: -70, Hi: 71}
}

func clamp() api.Op { return api.Op{Kind: api.Clamp, Lo: -72, Hi: 73} }

// chain is a model in which each op but an Add reads the one ahead of it.
func chain(in api.Shape, ops ...api.Op) api.Model {
	m := api.Model{In: in, Lo: -100, Hi: 110, Out: len(ops)}
	for i, op := range ops {
		if op.Kind != api.Add {
			op.A = i
		}
		m.Ops = append(m.Ops, op)
	}
	return m
}

// star is a model whose ops all read the input, or what they say themselves.
func star(in api.Shape, ops ...api.Op) api.Model {
	return api.Model{In: in, Lo: -128, Hi: 127, Ops: ops, Out: len(ops)}
}

// declaring is the model with another range for its input.
func declaring(lo, hi int, m api.Model) api.Model {
	m.Lo, m.Hi = lo, hi
	return m
}

// row is a Dense of one channel with these weights, alone in its model.
func row(bias int32, weights ...int16) api.Model {
	return star(of(1, 1, len(weights)), api.Op{Kind: api.Dense, M: 1, Weights: weights, Bias: []int32{bias}, SA: api.Scale{Mult: 1}, Lo: -128, Hi: 127})
}

// denseExample is the first of chapter 8, with the declared range 0 to 10.
func denseExample() api.Model { return declaring(0, 10, row(1, 3, -2)) }

// oneOfEach are ops of every kind over tensors of the shape {4, 3, 2}, those
// that reduce first.
func oneOfEach() []api.Op {
	in := of(4, 3, 2)
	return []api.Op{
		dense(in, 3), conv(in, 3, padded(kernel(3, 2, 2, 1), 1, 0, 2, 1)), depthwise(in, padded(kernel(2, 3, 1, 2), 1, 2, 0, 1)),
		average(kernel(2, 2, 1, 1)), greatest(kernel(3, 2, 1, 1)), add(0, 0), rescale(), clamp(),
	}
}

// firstAndBehind are, for each kind, a model in which it is the first op, one
// in which it stands behind another op and reads that, and two in which it
// stands behind others and reads a tensor that isn't the last.
func firstAndBehind() []named {
	var all []named
	in := of(4, 3, 2)
	for i, op := range oneOfEach() {
		behind, back := op, op
		behind.A, back.A = 1, 1
		if op.Kind == api.Add {
			behind.B, back.B = 1, 2
		}
		kind := string(rune('1' + i))
		all = append(all,
			named{"first, kind " + kind, star(in, op)},
			named{"behind, kind " + kind, star(in, rescale(), behind)},
			named{"further back, kind " + kind, star(in, rescale(), clamp(), dense(in, 1), back)},
			named{"the input behind others, kind " + kind, star(in, dense(in, 1), average(kernel(2, 1, 1, 1)), op)},
		)
	}
	return all
}

// everyKind has ops of all kinds, each reading what the one ahead makes, and
// ops that don't reduce between those that do.
func everyKind() api.Model {
	return chain(of(5, 4, 2),
		clamp(),
		conv(of(5, 4, 2), 3, padded(kernel(3, 3, 1, 1), 1, 1, 1, 1)),
		rescale(),
		depthwise(of(5, 4, 3), kernel(2, 2, 1, 1)),
		add(4, 4),
		average(kernel(2, 1, 2, 1)),
		greatest(kernel(1, 2, 1, 1)),
		dense(of(2, 2, 3), 4),
		dense(of(1, 1, 4), 2),
	)
}

// adding has Adds of the input and itself, of two tensors either way round, of
// an earlier tensor and itself.
func adding() api.Model {
	return star(of(2, 3, 2), add(0, 0), rescale(), add(1, 2), add(2, 1), add(0, 3), add(5, 0), add(4, 4), add(7, 7))
}

// skipping has ops that read a tensor that isn't the one ahead of them, of
// another shape than that.
func skipping() api.Model {
	m := chain(of(3, 5, 2),
		conv(of(3, 5, 2), 4, kernel(3, 1, 1, 1)),
		dense(of(1, 5, 4), 3),
		average(kernel(2, 2, 1, 1)),
		depthwise(of(1, 5, 4), padded(kernel(1, 3, 1, 2), 0, 2, 0, 0)),
		conv(of(2, 4, 2), 1, kernel(2, 2, 1, 1)),
		dense(of(3, 5, 2), 2),
	)
	m.Ops[2].A, m.Ops[3].A, m.Ops[4].A, m.Ops[5].A = 0, 1, 3, 0
	m.Out = 0
	return m
}

// sides has a window for each way in which padding lies about a plane.
func sides() api.Model {
	in := of(3, 4, 2)
	k := kernel(2, 3, 1, 1)
	m := star(in)
	for _, w := range []api.Window{
		k, padded(k, 1, 0, 0, 0), padded(k, 0, 2, 0, 0), padded(k, 0, 0, 1, 0), padded(k, 0, 0, 0, 2), padded(k, 1, 2, 1, 2),
		padded(kernel(3, 3, 2, 1), 2, 0, 1, 2), padded(kernel(2, 2, 3, 2), 1, 1, 1, 1), kernel(3, 4, 1, 1), kernel(1, 1, 32, 32),
	} {
		m.Ops = append(m.Ops, conv(in, 2, w), depthwise(in, w))
		if w == kernel(w.KH, w.KW, w.SH, w.SW) {
			m.Ops = append(m.Ops, average(w), greatest(w))
		}
	}
	return m
}

// mixedWidths has channels of which some need 32 bits, some can be 16 wide with
// the whole length and some with less, behind one another.
func mixedWidths() api.Model {
	op := dense(of(1, 1, 3), 4)
	op.Weights = []int16{1, 2, 3, 300, 1, 1, 100, 100, 100, -1, 2000, 5}
	op.Bias = []int32{0, -9, math.MaxInt32 - 100000, math.MinInt32 + 1000000}
	second := dense(of(1, 1, 4), 2)
	second.Weights = []int16{200, -200, 200, 200, 32767, 1, -32768, 0}
	second.A = 1
	return star(of(1, 1, 3), op, second)
}

// repeated are as many ops as a model may have, each like this one.
func repeated(op api.Op) []api.Op { return slices.Repeat([]api.Op{op}, api.MaxOps) }

// greatModels are at the limits.
func greatModels() []named {
	wide := padded(kernel(32, 16, 32, 32), 31, 15, 31, 15)
	return []named{
		{"64 ops", chain(of(1, 2, 3), repeated(average(kernel(1, 1, 1, 1)))...)},
		{"64 ops that don't reduce", chain(of(1, 2, 3), repeated(clamp())...)},
		{"64 ops of as much work as can be", chain(of(32, 32, 2), repeated(average(kernel(1, 1, 1, 1)))...)},
		{"64 ops of 1024 channels", chain(of(1, 1, 1024), repeated(average(kernel(1, 1, 1, 1)))...)},
		{"131072 weights", chain(of(8, 8, 8), dense(of(8, 8, 8), 256))},
		{"1024 channels", chain(of(1, 128, 1), dense(of(1, 128, 1), 1024))},
		{"1024 channels of A", chain(of(2, 2, 1024), depthwise(of(2, 2, 1024), padded(kernel(2, 2, 1, 1), 1, 1, 1, 1)))},
		{"16384 places", chain(of(128, 128, 1), average(kernel(2, 2, 1, 1)), conv(of(127, 127, 1), 1, kernel(2, 2, 1, 1)))},
		{"a wide window", chain(of(16, 1024, 1), conv(of(16, 1024, 1), 3, wide))},
		{"an Average of 512", chain(of(32, 16, 2), average(kernel(32, 16, 1, 1)))},
		{"a Max of 32 by 32", chain(of(40, 40, 1), greatest(kernel(32, 32, 1, 1)))},
	}
}

// smallModels are all but the great ones.
func smallModels() []named {
	all := []named{
		{"the example", denseExample()},
		{"every kind", everyKind()},
		{"adding", adding()},
		{"skipping", skipping()},
		{"sides", sides()},
		{"mixed widths", mixedWidths()},
		{"no ops", star(of(2, 2, 2))},
		{"no ops, one number", declaring(7, 7, star(of(1, 1, 1)))},
	}
	return append(all, firstAndBehind()...)
}

func TestModelsAreWellFormed(t *testing.T) {
	for _, n := range append(smallModels(), greatModels()...) {
		if f := model.Check(n.m); f != (api.Fault{}) {
			t.Errorf("%s: %v", n.name, f)
		}
	}
}

func anyOf[T any](r *rand.Rand, all ...T) T { return all[r.Intn(len(all))] }

func anyValue(r *rand.Rand) int { return r.Intn(256) - 128 }

// anyScale brings numbers up to the greatest to numbers about as great as an
// int8; seldom it is any scale.
func anyScale(r *rand.Rand, most int) api.Scale {
	if r.Intn(8) == 0 {
		return api.Scale{Mult: 1 + r.Intn(math.MaxInt32), Shift: r.Intn(api.MaxShift + 1)}
	}
	shift := r.Intn(31)
	mult := int(float64(int(128)<<shift) / float64(most) * (0.1 + 2*r.Float64()))
	return api.Scale{Mult: min(max(mult, 1), math.MaxInt32), Shift: shift}
}

// anySide is a window's size, step and padding along a side of that length.
func anySide(r *rand.Rand, side int, pads bool) (size, step, ahead, behind int) {
	for {
		size, step, ahead, behind = 1+r.Intn(4), anyOf(r, 1, 1, 2, 3, 32), 0, 0
		if pads {
			ahead, behind = r.Intn(size), r.Intn(size)
		}
		if size <= ahead+side+behind {
			return size, step, ahead, behind
		}
	}
}

func anyWindow(r *rand.Rand, a api.Shape, pads bool) api.Window {
	var w api.Window
	w.KH, w.SH, w.Top, w.Bottom = anySide(r, a.H, pads)
	w.KW, w.SW, w.Left, w.Right = anySide(r, a.W, pads)
	return w
}

// withNumbers fills in weights, of both signs or of one, biases, the scale and
// Zero. A bias may be so far out that running sums leave 32 bits.
func withNumbers(r *rand.Rand, op api.Op, channels, length int) api.Op {
	most := anyOf(r, 2, 30, 120, 500, 32768)
	moved := anyOf(r, most, most, 0, 2*most-1)
	for range channels * length {
		op.Weights = append(op.Weights, int16(max(-32768, min(32767, r.Intn(2*most)-moved))))
	}
	for range channels {
		op.Bias = append(op.Bias, int32(r.Intn(64*most)-32*most))
	}
	if r.Intn(12) == 0 {
		op.Bias[r.Intn(channels)] = anyOf(r, math.MaxInt32, math.MinInt32, math.MaxInt32-int32(r.Intn(100*most)), math.MinInt32+int32(r.Intn(100*most)))
	}
	op.SA, op.Zero = anyScale(r, 128*most*length), anyValue(r)/4
	return op
}

// sameShape is any tensor that has the shape of that one.
func sameShape(r *rand.Rand, shapes []api.Shape, tensor int) int {
	for {
		if other := r.Intn(len(shapes)); shapes[other] == shapes[tensor] {
			return other
		}
	}
}

// anyOp is an op of any kind that reads one of the tensors of these shapes.
func anyOp(r *rand.Rand, shapes []api.Shape) api.Op {
	at := r.Intn(len(shapes))
	a := shapes[at]
	op := api.Op{Kind: 1 + r.Intn(8), A: at, Lo: -1 - r.Intn(128), Hi: r.Intn(128)}
	switch op.Kind {
	case api.Dense:
		op.M = 1 + r.Intn(4)
		return withNumbers(r, op, op.M, a.H*a.W*a.C)
	case api.Conv:
		op.M, op.Win, op.Pad = 1+r.Intn(4), anyWindow(r, a, r.Intn(3) > 0), anyValue(r)
		return withNumbers(r, op, op.M, op.Win.KH*op.Win.KW*a.C)
	case api.Depthwise:
		op.Win, op.Pad = anyWindow(r, a, r.Intn(3) > 0), anyValue(r)
		return withNumbers(r, op, a.C, op.Win.KH*op.Win.KW)
	case api.Average, api.Max:
		op.Win = anyWindow(r, a, false)
	case api.Add:
		op.B, op.SA, op.SB, op.Zero = sameShape(r, shapes, at), anyScale(r, 256), anyScale(r, 256), anyValue(r)/4
	case api.Rescale:
		op.SA, op.Zero = anyScale(r, 128), anyValue(r)/4
	}
	return op
}

// anyModel is well-formed, of up to so many ops; one that would be too much is
// left out.
func anyModel(r *rand.Rand, most int) api.Model {
	lo := anyValue(r)
	m := api.Model{In: of(1+r.Intn(5), 1+r.Intn(5), 1+r.Intn(4)), Lo: lo, Hi: lo + r.Intn(128-lo)}
	for range r.Intn(most + 1) {
		shapes, _ := model.Shapes(m)
		wider := m
		wider.Ops = append(m.Ops[:len(m.Ops):len(m.Ops)], anyOp(r, shapes))
		if model.Check(wider) == (api.Fault{}) {
			m = wider
		}
	}
	m.Out = r.Intn(len(m.Ops) + 1)
	return m
}

// broken is a model that isn't well-formed: its fault, and what makes it of the
// model of base.
type broken struct {
	name  string
	fault api.Fault
	do    func(m *api.Model)
}

// base has three ops; one of them is made faulty.
func base() api.Model {
	in := of(4, 4, 2)
	return chain(in, conv(in, 2, padded(kernel(3, 3, 1, 1), 1, 1, 1, 1)), conv(in, 2, kernel(1, 1, 1, 1)), conv(in, 2, kernel(1, 1, 1, 1)))
}

func ofModel() []broken {
	fault := func(e api.Errno) api.Fault { return api.Fault{Err: e} }
	return []broken{
		{"no rows", fault(api.ErrShape), func(m *api.Model) { m.In.H = 0 }},
		{"a side too long", fault(api.ErrShape), func(m *api.Model) { m.In.C = api.MaxDim + 1 }},
		{"sides as long as can be", fault(api.ErrShape), func(m *api.Model) { m.In = of(math.MaxInt, math.MaxInt, math.MinInt) }},
		{"Lo below", fault(api.ErrRange), func(m *api.Model) { m.Lo = -129 }},
		{"Hi above", fault(api.ErrRange), func(m *api.Model) { m.Hi = 128 }},
		{"Lo above Hi", fault(api.ErrRange), func(m *api.Model) { m.Lo, m.Hi = 1, 0 }},
		{"65 ops", fault(api.ErrMany), func(m *api.Model) { m.Ops = append(m.Ops, make([]api.Op, 62)...) }},
		{"Out below", fault(api.ErrPlace), func(m *api.Model) { m.Out = -1 }},
		{"Out above", fault(api.ErrPlace), func(m *api.Model) { m.Out = 4 }},
		{"an Add of two shapes", api.Fault{Err: api.ErrShape, Op: 2}, func(m *api.Model) { m.Ops[0] = average(kernel(2, 2, 1, 1)); m.Ops[1] = add(0, 1) }},
		{"too much work together", api.Fault{Err: api.ErrWork, Op: 3}, func(m *api.Model) {
			in := of(16, 16, 16)
			m.In = in
			for i := range m.Ops {
				m.Ops[i] = conv(in, 16, kernel(1, 1, 1, 1))
				m.Ops[i].A = i
			}
		}},
	}
}

// ofOp are the faults of one op, whichever of the three it is.
func ofOp(number int) []broken {
	var all []broken
	fault := func(name string, e api.Errno, do func(op *api.Op)) {
		all = append(all, broken{name, api.Fault{Err: e, Op: number}, func(m *api.Model) { do(&m.Ops[number-1]) }})
	}
	fault("Kind 0", api.ErrKind, func(op *api.Op) { op.Kind = 0 })
	fault("Kind 9", api.ErrKind, func(op *api.Op) { op.Kind = 9 })
	fault("its own tensor", api.ErrEdge, func(op *api.Op) { op.A = number })
	fault("a tensor below", api.ErrEdge, func(op *api.Op) { op.A = math.MinInt })
	fault("an Add of its own tensor", api.ErrEdge, func(op *api.Op) { *op = add(0, number) })
	fault("another tensor beside", api.ErrField, func(op *api.Op) { op.B = 1 })
	fault("an Average with a bias", api.ErrField, func(op *api.Op) { *op = average(kernel(1, 1, 1, 1)); op.Bias = []int32{1, 1} })
	fault("M 0", api.ErrArg, func(op *api.Op) { op.M = 0 })
	fault("M as great as can be", api.ErrArg, func(op *api.Op) { op.M = math.MaxInt })
	fault("no window", api.ErrWindow, func(op *api.Op) { op.Win = api.Window{} })
	fault("too many numbers", api.ErrShape, func(op *api.Op) { op.M, op.Win = 1024, padded(kernel(3, 3, 1, 1), 2, 2, 2, 2) })
	fault("too long", api.ErrReduce, func(op *api.Op) { op.Win = padded(kernel(32, 32, 1, 1), 31, 31, 31, 31) })
	fault("a weight too few", api.ErrLens, func(op *api.Op) { op.Weights = op.Weights[1:] })
	fault("no weights", api.ErrLens, func(op *api.Op) { op.Weights = nil })
	fault("no biases", api.ErrLens, func(op *api.Op) { op.Bias = nil })
	fault("no scale", api.ErrScale, func(op *api.Op) { op.SA = api.Scale{} })
	fault("Zero above", api.ErrRange, func(op *api.Op) { op.Zero = 128 })
	fault("Lo above Hi", api.ErrRange, func(op *api.Op) { op.Lo, op.Hi = 1, 0 })
	// 11 times 35 positions, 2 channels, sums of 512 terms.
	fault("too much work", api.ErrWork, func(op *api.Op) { *op = conv(of(4, 4, 2), 2, padded(kernel(8, 32, 1, 1), 7, 31, 7, 31)) })
	return all
}

// brokenModels are all of these, each with the fault that layer 8 tells.
func brokenModels() []broken {
	all := ofModel()
	for number := 1; number <= 3; number++ {
		all = append(all, ofOp(number)...)
	}
	return all
}

// model is the one that isn't well-formed.
func (b broken) model() api.Model {
	m := base()
	b.do(&m)
	return m
}

// disturb sets one number of the model, or the length of one of its lists.
func disturb(r *rand.Rand, m *api.Model) {
	to := anyOf(r, 0, 1, 2, 3, -1, 4, 128, -129, 127, -128, 1024, 1025, math.MaxInt, math.MinInt, 1<<32)
	places := []*int{&m.In.H, &m.In.W, &m.In.C, &m.Lo, &m.Hi, &m.Out}
	if len(m.Ops) > 0 {
		op := &m.Ops[r.Intn(len(m.Ops))]
		w := &op.Win
		places = append(places, &op.Kind, &op.A, &op.B, &op.M, &w.KH, &w.KW, &w.SH, &w.SW, &w.Top, &w.Left, &w.Bottom, &w.Right,
			&op.SA.Mult, &op.SA.Shift, &op.SB.Mult, &op.SB.Shift, &op.Zero, &op.Pad, &op.Lo, &op.Hi)
		switch r.Intn(8) {
		case 0:
			op.Weights = op.Weights[:r.Intn(len(op.Weights)+1)]
			return
		case 1:
			op.Bias = append(op.Bias, int32(to))
			return
		}
	}
	*places[r.Intn(len(places))] = to
}

// steeper is the model with weights that are so many times as great, so that
// registers run over.
func steeper(m api.Model, by int16) api.Model {
	m.Ops = slices.Clone(m.Ops)
	for i, op := range m.Ops {
		m.Ops[i].Weights = slices.Clone(op.Weights)
		for k := range op.Weights {
			m.Ops[i].Weights[k] *= by
		}
	}
	return m
}

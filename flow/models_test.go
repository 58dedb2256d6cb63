package flow_test

import (
	"math"
	"math/rand"
	"slices"
	"testing"

	"spillway/api"
	"spillway/model"
)

// named is a model that the tests speak of.
type named struct {
	name string
	m    api.Model
}

func of(h, w, c int) api.Shape { return api.Shape{H: h, W: w, C: c} }

func span(lo, hi int64) api.Span { return api.Span{Lo: lo, Hi: hi} }

// kernel is a window without padding.
func kernel(kh, kw, sh, sw int) api.Window { return api.Window{KH: kh, KW: kw, SH: sh, SW: sw} }

// padded is the window with so much padding at its sides.
func padded(w api.Window, top, left, bottom, right int) api.Window {
	w.Top, w.Left, w.Bottom, w.Right = top, left, bottom, right
	return w
}

// counted are numbers that differ from place to place, so that none can stand
// for another.
func counted[T int16 | int32](n int, from, step T) []T {
	list := make([]T, n)
	for i := range list {
		list[i] = from + T(i)*step
	}
	return list
}

func dense(in api.Shape, m int) api.Op {
	return api.Op{Kind: api.Dense, M: m, Weights: counted[int16](m*in.H*in.W*in.C, -40, 3), Bias: counted[int32](m, 700, -901), SA: api.Scale{Mult: 12345, Shift: 20}, Zero: 5, Lo: -101, Hi: 99}
}

func conv(in api.Shape, m int, win api.Window) api.Op {
	n := win.KH * win.KW * in.C * m
	return api.Op{Kind: api.Conv, M: m, Win: win, Weights: counted[int16](n, 60, -7), Bias: counted[int32](m, -5, 3), SA: api.Scale{Mult: 17, Shift: 13}, Zero: -6, Pad: 17, Lo: -90, Hi: 80}
}

func depthwise(in api.Shape, win api.Window) api.Op {
	n := win.KH * win.KW * in.C
	return api.Op{Kind: api.Depthwise, Win: win, Weights: counted[int16](n, -30, 6), Bias: counted[int32](in.C, 100, 14), SA: api.Scale{Mult: 3, Shift: 8}, Zero: 11, Pad: -12, Lo: -64, Hi: 63}
}

func average(win api.Window) api.Op { return api.Op{Kind: api.Average, Win: win, Lo: -60, Hi: 61} }

func greatest(win api.Window) api.Op { return api.Op{Kind: api.Max, Win: win, Lo: -62, Hi: 65} }

func add(a, b int) api.Op {
	return api.Op{Kind: api.Add, A: a, B: b, SA: api.Scale{Mult: 5, Shift: 3}, SB: api.Scale{Mult: 50, Shift: 7}, Zero: -6, Lo: -67, Hi: 68}
}

func rescale() api.Op {
	return api.Op{Kind: api.Rescale, SA: api.Scale{Mult: 3 << 20, Shift: 22}, Zero: 9, Lo: -70, Hi: 71}
}

func clamp() api.Op { return api.Op{Kind: api.Clamp, Lo: -72, Hi: 73} }

// within is the op with another range.
func within(op api.Op, lo, hi int) api.Op {
	op.Lo, op.Hi = lo, hi
	return op
}

// widest is the op with a range that cuts off nothing but what no int8 holds.
func widest(op api.Op) api.Op { return within(op, -128, 127) }

// times is a scale that rounds nothing.
func times(n int) api.Scale { return api.Scale{Mult: n} }

// exact is the op with scales of 1, a Zero of 0 and the widest range.
func exact(op api.Op) api.Op {
	op.SA, op.Zero = times(1), 0
	if op.Kind == api.Add {
		op.SB = times(1)
	}
	return widest(op)
}

// chain is a model in which each op but an Add reads the one ahead of it.
func chain(in api.Shape, ops ...api.Op) api.Model {
	m := api.Model{In: in, Lo: -100, Hi: 110, Out: len(ops)}
	for i, op := range ops {
		if op.Kind != api.Add {
			op.A = i
		}
		m.Ops = append(m.Ops, op)
	}
	return m
}

// star is a model whose ops all read the input, or what they say themselves.
func star(in api.Shape, ops ...api.Op) api.Model {
	return api.Model{In: in, Lo: -128, Hi: 127, Ops: ops, Out: len(ops)}
}

// row is a Dense of one channel with these weights, alone in its model.
func row(bias int32, weights ...int16) api.Model {
	return star(of(1, 1, len(weights)), exact(api.Op{Kind: api.Dense, M: 1, Weights: weights, Bias: []int32{bias}}))
}

// denseExample is the first of chapter 8.
func denseExample() api.Model { return row(1, 3, -2) }

// declaring is the model with another range for its input.
func declaring(lo, hi int, m api.Model) api.Model {
	m.Lo, m.Hi = lo, hi
	return m
}

// oneOfEach are ops of every kind over tensors of the shape {4, 3, 2}, those
// that reduce first.
func oneOfEach() []api.Op {
	in := of(4, 3, 2)
	return []api.Op{
		dense(in, 3), conv(in, 3, padded(kernel(3, 2, 2, 1), 1, 0, 2, 1)), depthwise(in, padded(kernel(2, 3, 1, 2), 1, 2, 0, 1)),
		average(kernel(2, 2, 1, 1)), greatest(kernel(3, 2, 1, 1)), add(0, 0), rescale(), clamp(),
	}
}

// firstAndBehind are, for each kind, a model in which it is the first op, one
// in which it stands behind another op and reads that, and two in which it
// stands behind others and reads a tensor further back.
func firstAndBehind() []named {
	var all []named
	in := of(4, 3, 2)
	for i, op := range oneOfEach() {
		behind, back := op, op
		behind.A, back.A = 1, 1
		if op.Kind == api.Add {
			behind.B, back.B = 1, 2
		}
		kind := string(rune('1' + i))
		all = append(all,
			named{"first, kind " + kind, star(in, op)},
			named{"behind, kind " + kind, star(in, rescale(), behind)},
			named{"further back, kind " + kind, star(in, rescale(), widest(clamp()), dense(in, 1), back)},
			named{"the input behind others, kind " + kind, star(in, dense(in, 1), average(kernel(2, 1, 1, 1)), op)},
		)
	}
	return all
}

// everyKind has ops of all kinds, each reading what the one ahead makes.
func everyKind() api.Model {
	return chain(of(5, 4, 2),
		clamp(),
		conv(of(5, 4, 2), 3, padded(kernel(3, 3, 1, 1), 1, 1, 1, 1)),
		rescale(),
		depthwise(of(5, 4, 3), kernel(2, 2, 1, 1)),
		add(4, 4),
		average(kernel(2, 1, 2, 1)),
		greatest(kernel(1, 2, 1, 1)),
		dense(of(2, 2, 3), 4),
		dense(of(1, 1, 4), 2),
	)
}

// adding has Adds of the input and itself, of two tensors either way round, of
// an earlier tensor and itself.
func adding() api.Model {
	return star(of(2, 3, 2), add(0, 0), rescale(), add(1, 2), add(2, 1), add(0, 3), add(5, 0), add(4, 4), add(7, 7))
}

// skipping has ops that read a tensor that isn't the one ahead of them, of
// another shape than that.
func skipping() api.Model {
	m := chain(of(3, 5, 2),
		conv(of(3, 5, 2), 4, kernel(3, 1, 1, 1)),
		dense(of(1, 5, 4), 3),
		average(kernel(2, 2, 1, 1)),
		depthwise(of(1, 5, 4), padded(kernel(1, 3, 1, 2), 0, 2, 0, 0)),
		conv(of(2, 4, 2), 1, kernel(2, 2, 1, 1)),
		dense(of(3, 5, 2), 2),
	)
	m.Ops[2].A, m.Ops[3].A, m.Ops[4].A, m.Ops[5].A = 0, 1, 3, 0
	m.Out = 0
	return m
}

// sides has a window for each way in which padding lies about a plane.
func sides() api.Model {
	in := of(3, 4, 2)
	k := kernel(2, 3, 1, 1)
	m := star(in)
	for _, w := range []api.Window{
		k, padded(k, 1, 0, 0, 0), padded(k, 0, 2, 0, 0), padded(k, 0, 0, 1, 0), padded(k, 0, 0, 0, 2), padded(k, 1, 2, 1, 2),
		padded(kernel(3, 3, 2, 1), 2, 0, 1, 2), padded(kernel(3, 3, 1, 2), 0, 2, 2, 1), padded(kernel(2, 2, 3, 2), 1, 1, 1, 1),
		kernel(3, 4, 1, 1), kernel(1, 1, 1, 1), kernel(1, 1, 3, 3), kernel(1, 1, 32, 32),
	} {
		m.Ops = append(m.Ops, conv(in, 2, w), depthwise(in, w))
		if w == kernel(w.KH, w.KW, w.SH, w.SW) {
			m.Ops = append(m.Ops, average(w), greatest(w))
		}
	}
	return m
}

// allPadding has windows greater than their plane, so that each position has
// padding in it.
func allPadding() api.Model {
	in := of(1, 1, 3)
	return star(in,
		conv(in, 2, padded(kernel(3, 3, 1, 1), 2, 2, 2, 2)),
		depthwise(in, padded(kernel(5, 2, 2, 1), 4, 1, 4, 1)),
		conv(in, 1, padded(kernel(4, 1, 3, 1), 3, 0, 0, 0)),
		depthwise(in, padded(kernel(1, 4, 1, 2), 0, 3, 0, 3)),
	)
}

func emptyLists(m api.Model) api.Model {
	m.Ops = slices.Clone(m.Ops)
	for i := range m.Ops {
		if m.Ops[i].Weights == nil {
			m.Ops[i].Weights, m.Ops[i].Bias = []int16{}, []int32{}
		}
	}
	return m
}

// farthest is a Dense of 512 weights that are as great as can be, one channel
// of each sign, with that scale.
func farthest(scale api.Scale) api.Model {
	op := widest(dense(of(8, 8, 8), 2))
	op.Weights = append(slices.Repeat([]int16{math.MinInt16}, 512), slices.Repeat([]int16{math.MaxInt16}, 512)...)
	op.Bias, op.SA = []int32{math.MinInt32, math.MaxInt32}, scale
	return star(of(8, 8, 8), op)
}

// repeated are as many ops as a model may have, each like this one.
func repeated(op api.Op) []api.Op { return slices.Repeat([]api.Op{op}, api.MaxOps) }

// greatModels are at the limits.
func greatModels() []named {
	wide := padded(kernel(32, 16, 32, 32), 31, 15, 31, 15)
	return []named{
		{"the farthest sums", farthest(api.Scale{Mult: 1, Shift: 25})},
		{"the farthest sums, times as much as can be", farthest(api.Scale{Mult: math.MaxInt32})},
		{"64 ops", chain(of(1, 2, 3), repeated(average(kernel(1, 1, 1, 1)))...)},
		{"64 ops of as much work as can be", chain(of(32, 32, 2), repeated(average(kernel(1, 1, 1, 1)))...)},
		{"64 ops of 1024 channels", chain(of(1, 1, 1024), repeated(average(kernel(1, 1, 1, 1)))...)},
		{"131072 weights", chain(of(8, 8, 8), dense(of(8, 8, 8), 256))},
		{"1024 channels", chain(of(1, 128, 1), dense(of(1, 128, 1), 1024))},
		{"1024 channels of A", chain(of(2, 2, 1024), depthwise(of(2, 2, 1024), padded(kernel(2, 2, 1, 1), 1, 1, 1, 1)))},
		{"16384 places", chain(of(128, 128, 1), average(kernel(2, 2, 1, 1)), conv(of(127, 127, 1), 1, kernel(2, 2, 1, 1)))},
		{"a wide window", chain(of(16, 1024, 1), conv(of(16, 1024, 1), 3, wide))},
		{"an Average of 512", chain(of(32, 16, 2), average(kernel(32, 16, 1, 1)))},
		{"a Max of 32 by 32", chain(of(40, 40, 1), greatest(kernel(32, 32, 1, 1)))},
	}
}

func allModels() []named {
	all := []named{
		{"the example", denseExample()},
		{"every kind", everyKind()},
		{"every kind, lists that are empty, not nil", emptyLists(everyKind())},
		{"adding", adding()},
		{"skipping", skipping()},
		{"sides", sides()},
		{"all padding", allPadding()},
		{"no ops", star(of(2, 2, 2))},
	}
	all = append(all, firstAndBehind()...)
	return append(all, greatModels()...)
}

func TestModelsAreWellFormed(t *testing.T) {
	for _, n := range allModels() {
		if f := model.Check(n.m); f != (api.Fault{}) {
			t.Errorf("%s: %v", n.name, f)
		}
	}
}

func anyOf[T any](r *rand.Rand, all ...T) T { return all[r.Intn(len(all))] }

func anyValue(r *rand.Rand) int { return r.Intn(256) - 128 }

// anyScale brings numbers up to the greatest to numbers about as great as an
// int8; seldom it is any scale.
func anyScale(r *rand.Rand, most int) api.Scale {
	if r.Intn(8) == 0 {
		return api.Scale{Mult: 1 + r.Intn(math.MaxInt32), Shift: r.Intn(api.MaxShift + 1)}
	}
	shift := r.Intn(31)
	mult := int(float64(int(128)<<shift) / float64(most) * (0.1 + 2*r.Float64()))
	return api.Scale{Mult: min(max(mult, 1), math.MaxInt32), Shift: shift}
}

// anySide is a window's size, step and padding along a side of that length.
func anySide(r *rand.Rand, side int, pads bool) (size, step, ahead, behind int) {
	for {
		size, step, ahead, behind = 1+r.Intn(4), anyOf(r, 1, 1, 2, 3, 32), 0, 0
		if pads {
			ahead, behind = r.Intn(size), r.Intn(size)
		}
		if size <= ahead+side+behind {
			return size, step, ahead, behind
		}
	}
}

func anyWindow(r *rand.Rand, a api.Shape, pads bool) api.Window {
	var w api.Window
	w.KH, w.SH, w.Top, w.Bottom = anySide(r, a.H, pads)
	w.KW, w.SW, w.Left, w.Right = anySide(r, a.W, pads)
	return w
}

// withNumbers fills in weights, of both signs or of one, biases, the scale and
// Zero.
func withNumbers(r *rand.Rand, op api.Op, channels, length int) api.Op {
	most := anyOf(r, 2, 30, 500, 32768)
	moved := anyOf(r, most, most, 0, 2*most-1)
	for range channels * length {
		op.Weights = append(op.Weights, int16(max(-32768, min(32767, r.Intn(2*most)-moved))))
	}
	for range channels {
		op.Bias = append(op.Bias, anyOf(r, 0, int32(r.Intn(64*most)-32*most), int32(r.Intn(64*most)-32*most), int32(r.Int())))
	}
	op.SA, op.Zero = anyScale(r, 128*most*length), anyValue(r)/4
	return op
}

// sameShape is any tensor that has the shape of that one.
func sameShape(r *rand.Rand, shapes []api.Shape, tensor int) int {
	for {
		if other := r.Intn(len(shapes)); shapes[other] == shapes[tensor] {
			return other
		}
	}
}

// anyOp is an op of any kind that reads one of the tensors of these shapes.
func anyOp(r *rand.Rand, shapes []api.Shape) api.Op {
	at := r.Intn(len(shapes))
	a := shapes[at]
	op := api.Op{Kind: 1 + r.Intn(8), A: at, Lo: -1 - r.Intn(128), Hi: r.Intn(128)}
	switch op.Kind {
	case api.Dense:
		op.M = 1 + r.Intn(4)
		return withNumbers(r, op, op.M, a.H*a.W*a.C)
	case api.Conv:
		op.M, op.Win, op.Pad = 1+r.Intn(4), anyWindow(r, a, r.Intn(3) > 0), anyValue(r)
		return withNumbers(r, op, op.M, op.Win.KH*op.Win.KW*a.C)
	case api.Depthwise:
		op.Win, op.Pad = anyWindow(r, a, r.Intn(3) > 0), anyValue(r)
		return withNumbers(r, op, a.C, op.Win.KH*op.Win.KW)
	case api.Average, api.Max:
		op.Win = anyWindow(r, a, false)
	case api.Add:
		op.B, op.SA, op.SB, op.Zero = sameShape(r, shapes, at), anyScale(r, 256), anyScale(r, 256), anyValue(r)/4
	case api.Rescale:
		op.SA, op.Zero = anyScale(r, 128), anyValue(r)/4
	}
	return op
}

// anyModel is well-formed, of up to so many ops; one that would be too much is
// left out.
func anyModel(r *rand.Rand, most int) api.Model {
	lo := anyValue(r)
	m := api.Model{In: of(1+r.Intn(5), 1+r.Intn(5), 1+r.Intn(4)), Lo: lo, Hi: lo + r.Intn(128-lo)}
	for range r.Intn(most + 1) {
		shapes, _ := model.Shapes(m)
		wider := m
		wider.Ops = append(m.Ops[:len(m.Ops):len(m.Ops)], anyOp(r, shapes))
		if model.Check(wider) == (api.Fault{}) {
			m = wider
		}
	}
	m.Out = r.Intn(len(m.Ops) + 1)
	return m
}

// anySpan is a span of values: any, of one number, at an end, or narrow.
func anySpan(r *rand.Rand) api.Span {
	lo := int64(anyValue(r))
	switch r.Intn(5) {
	case 0:
		return span(lo, lo)
	case 1:
		return span(-128, lo)
	case 2:
		return span(lo, 127)
	case 3:
		return span(lo, min(127, lo+int64(r.Intn(4))))
	}
	return span(lo, lo+int64(r.Intn(int(128-lo))))
}

// anySpans are so many of values.
func anySpans(r *rand.Rand, n int) []api.Span {
	list := make([]api.Span, n)
	for i := range list {
		list[i] = anySpan(r)
	}
	return list
}

// spans of values: of one number, on either side of 0, across it, the widest.
func spans() []api.Span {
	return []api.Span{
		span(0, 0), span(1, 1), span(-1, -1), span(127, 127), span(-128, -128), span(-127, -127),
		span(0, 10), span(3, 9), span(100, 127), span(0, 127), span(-10, 0), span(-9, -3), span(-128, -100), span(-128, 0),
		span(-5, 6), span(-6, 5), span(-7, 7), span(-127, 127), span(-128, 126), span(-128, 127),
	}
}

// noSpans are none of values: Lo above Hi, an end beyond, ends as far out as an
// int64 goes, and such whose low bits would make a span of values.
func noSpans() []api.Span {
	const least, most = math.MinInt64, math.MaxInt64
	return []api.Span{
		span(5, 4), span(1, 0), span(0, -1), span(127, -128), span(127, 126), span(-127, -128),
		span(-129, 0), span(-129, 127), span(-129, -129), span(0, 128), span(-128, 128), span(128, 128), span(5, 200), span(128, 127), span(-128, -129),
		span(least, most), span(most, least), span(least, least), span(most, most), span(least, 0), span(0, most), span(0, least), span(most, 0),
		span(least, 127), span(-128, most), span(least+1, least+2), span(most-1, most),
		span(1<<32, 1<<32+10), span(0, 1<<32+10), span(-1<<32, 10), span(256, 266), span(0, 256), span(-256, 0), span(1<<16, 1<<16), span(-1<<56, -1<<56),
	}
}

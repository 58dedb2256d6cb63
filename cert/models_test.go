package cert_test

import (
	"math"
	"math/rand"
	"slices"
	"testing"

	"spillway/api"
	"spillway/model"
)

// named is a model that the tests speak of.
type named struct {
	name string
	m    api.Model
}

func of(h, w, c int) api.Shape { return api.Shape{H: h, W: w, C: c} }

// kernel is a window without padding.
func kernel(kh, kw, sh, sw int) api.Window { return api.Window{KH: kh, KW: kw, SH: sh, SW: sw} }

// padded is the window with so much padding at its sides.
func padded(w api.Window, top, left, bottom, right int) api.Window {
	w.Top, w.Left, w.Bottom, w.Right = top, left, bottom, right
	return w
}

func times(n int) api.Scale { return api.Scale{Mult: n} }

func dense(in api.Shape, m int) api.Op {
	return api.Op{Kind: api.Dense, M: m, Weights: make([]int16, m*in.H*in.W*in.C), Bias: make([]int32, m), SA: times(3), Zero: 5, Lo: -101, Hi: 99}
}

func conv(in api.Shape, m int, win api.Window) api.Op {
	n := win.KH * win.KW * in.C * m
	return api.Op{Kind: api.Conv, M: m, Win: win, Weights: make([]int16, n), Bias: make([]int32, m), SA: times(2), Zero: -6, Pad: 17, Lo: -90, Hi: 80}
}

func depthwise(in api.Shape, win api.Window) api.Op {
	n := win.KH * win.KW * in.C
	return api.Op{Kind: api.Depthwise, Win: win, Weights: make([]int16, n), Bias: make([]int32, in.C), SA: times(1), Zero: 11, Pad: -12, Lo: -64, Hi: 63}
}

func average(win api.Window) api.Op { return api.Op{Kind: api.Average, Win: win, Lo: -60, Hi: 61} }

func greatest(win api.Window) api.Op { return api.Op{Kind: api.Max, Win: win, Lo: -62, Hi: 65} }

func add(a, b int) api.Op {
	return api.Op{Kind: api.Add, A: a, B: b, SA: times(1), SB: times(2), Zero: -6, Lo: -67, Hi: 68}
}

func rescale() api.Op { return api.Op{Kind: api.Rescale, SA: times(7), Zero: 9, Lo: -70, Hi: 71} }

func clamp() api.Op { return api.Op{Kind: api.Clamp, Lo: -72, Hi: 73} }

// chain is a model in which each op but an Add reads the one ahead of it.
func chain(in api.Shape, ops ...api.Op) api.Model {
	m := api.Model{In: in, Lo: -100, Hi: 110, Out: len(ops)}
	for i, op := range ops {
		if op.Kind != api.Add {
			op.A = i
		}
		m.Ops = append(m.Ops, op)
	}
	return m
}

// star is a model whose ops all read the input, or what they say themselves.
func star(in api.Shape, ops ...api.Op) api.Model {
	return api.Model{In: in, Lo: -128, Hi: 127, Ops: ops, Out: len(ops)}
}

// denseExample is the first of chapter 8, with the declared range 0 to 10.
func denseExample() api.Model {
	return api.Model{In: of(1, 1, 2), Lo: 0, Hi: 10, Out: 1, Ops: []api.Op{
		{Kind: api.Dense, M: 1, Weights: []int16{3, -2}, Bias: []int32{1}, SA: times(1), Lo: -128, Hi: 127},
	}}
}

// oneOfEach are ops of every kind over tensors of the shape {4, 3, 2}, those
// that reduce first.
func oneOfEach() []api.Op {
	in := of(4, 3, 2)
	return []api.Op{
		dense(in, 3), conv(in, 3, padded(kernel(3, 2, 2, 1), 1, 0, 2, 1)), depthwise(in, padded(kernel(2, 3, 1, 2), 1, 2, 0, 1)),
		average(kernel(2, 2, 1, 1)), greatest(kernel(3, 2, 1, 1)), add(0, 0), rescale(), clamp(),
	}
}

// firstAndBehind are, for each kind, a model in which it is the first op, and
// two in which it stands behind others: reading what one of them makes, and
// reading the input.
func firstAndBehind() []named {
	var all []named
	in := of(4, 3, 2)
	for i, op := range oneOfEach() {
		behind := op
		behind.A = 1
		if op.Kind == api.Add {
			behind.B = 2
		}
		kind := string(rune('1' + i))
		all = append(all,
			named{"first, kind " + kind, star(in, op)},
			named{"behind, kind " + kind, star(in, rescale(), clamp(), dense(in, 1), behind)},
			named{"the input behind others, kind " + kind, star(in, dense(in, 1), average(kernel(2, 1, 1, 1)), op)},
		)
	}
	return all
}

// everyKind has ops of all kinds, each reading what the one ahead makes, and
// ops that don't reduce between those that do.
func everyKind() api.Model {
	return chain(of(5, 4, 2),
		clamp(),
		conv(of(5, 4, 2), 3, padded(kernel(3, 3, 1, 1), 1, 1, 1, 1)),
		rescale(),
		depthwise(of(5, 4, 3), kernel(2, 2, 1, 1)),
		add(4, 4),
		average(kernel(2, 1, 2, 1)),
		greatest(kernel(1, 2, 1, 1)),
		dense(of(2, 2, 3), 4),
		dense(of(1, 1, 4), 2),
	)
}

// idle has ops that don't reduce alone.
func idle() api.Model {
	return star(of(3, 2, 2), clamp(), rescale(), add(1, 2), greatest(kernel(2, 2, 1, 1)))
}

// skipping has ops that read a tensor that isn't the one ahead of them, of
// another shape than that.
func skipping() api.Model {
	m := chain(of(3, 5, 2),
		conv(of(3, 5, 2), 4, kernel(3, 1, 1, 1)),
		dense(of(1, 5, 4), 3),
		average(kernel(2, 2, 1, 1)),
		depthwise(of(1, 5, 4), padded(kernel(1, 3, 1, 2), 0, 2, 0, 0)),
		conv(of(2, 4, 2), 1, kernel(2, 2, 1, 1)),
		dense(of(3, 5, 2), 2),
	)
	m.Ops[2].A, m.Ops[3].A, m.Ops[4].A, m.Ops[5].A = 0, 1, 3, 0
	m.Out = 0
	return m
}

// sides has a window for each way in which padding lies about a plane.
func sides() api.Model {
	in := of(3, 4, 2)
	k := kernel(2, 3, 1, 1)
	m := star(in)
	for _, w := range []api.Window{
		k, padded(k, 1, 0, 0, 0), padded(k, 0, 2, 0, 0), padded(k, 0, 0, 1, 0), padded(k, 0, 0, 0, 2), padded(k, 1, 2, 1, 2),
		padded(kernel(3, 3, 2, 1), 2, 0, 1, 2), padded(kernel(3, 3, 1, 2), 0, 2, 2, 1), padded(kernel(2, 2, 3, 2), 1, 1, 1, 1),
		kernel(3, 4, 1, 1), kernel(1, 1, 1, 1), kernel(1, 1, 3, 3), kernel(1, 1, 32, 32),
	} {
		m.Ops = append(m.Ops, conv(in, 3, w), depthwise(in, w))
		if w == kernel(w.KH, w.KW, w.SH, w.SW) {
			m.Ops = append(m.Ops, average(w), greatest(w))
		}
	}
	return m
}

// repeated are as many ops as a model may have, each like this one.
func repeated(op api.Op) []api.Op { return slices.Repeat([]api.Op{op}, api.MaxOps) }

// mixed are 64 ops, every other one of which reduces.
func mixed() api.Model {
	ops := repeated(clamp())
	for i := 1; i < len(ops); i += 2 {
		ops[i] = conv(of(2, 3, 2), 2, padded(kernel(2, 2, 1, 1), 1, 0, 0, 1))
	}
	return chain(of(2, 3, 2), ops...)
}

// greatModels are at the limits.
func greatModels() []named {
	wide := padded(kernel(32, 16, 32, 32), 31, 15, 31, 15)
	return []named{
		{"64 ops", mixed()},
		{"64 ops that reduce", chain(of(1, 2, 3), repeated(average(kernel(1, 1, 1, 1)))...)},
		{"64 ops that don't", chain(of(1, 2, 3), repeated(clamp())...)},
		{"64 ops of 1024 channels", chain(of(1, 1, 1024), repeated(average(kernel(1, 1, 1, 1)))...)},
		{"131072 weights", chain(of(8, 8, 8), dense(of(8, 8, 8), 256))},
		{"1024 channels", chain(of(1, 128, 1), dense(of(1, 128, 1), 1024))},
		{"1024 channels of A", chain(of(2, 2, 1024), depthwise(of(2, 2, 1024), padded(kernel(2, 2, 1, 1), 1, 1, 1, 1)))},
		{"16384 places", chain(of(128, 128, 1), average(kernel(2, 2, 1, 1)), conv(of(127, 127, 1), 1, kernel(2, 2, 1, 1)))},
		{"a wide window", chain(of(16, 1024, 1), conv(of(16, 1024, 1), 3, wide))},
		{"an Average of 512", chain(of(32, 16, 2), average(kernel(32, 16, 1, 1)))},
		{"a Max of 32 by 32", chain(of(40, 40, 1), greatest(kernel(32, 32, 1, 1)))},
	}
}

func allModels() []named {
	all := []named{
		{"the example", denseExample()},
		{"every kind", everyKind()},
		{"idle", idle()},
		{"skipping", skipping()},
		{"sides", sides()},
		{"no ops", star(of(2, 2, 2))},
	}
	all = append(all, firstAndBehind()...)
	return append(all, greatModels()...)
}

func TestModelsAreWellFormed(t *testing.T) {
	for _, n := range allModels() {
		if f := model.Check(n.m); f != (api.Fault{}) {
			t.Errorf("%s: %v", n.name, f)
		}
	}
}

func anyOf[T any](r *rand.Rand, all ...T) T { return all[r.Intn(len(all))] }

// anySide is a window's size, step and padding along a side of that length.
func anySide(r *rand.Rand, side int, pads bool) (size, step, ahead, behind int) {
	for {
		size, step, ahead, behind = 1+r.Intn(4), anyOf(r, 1, 1, 2, 3, 32), 0, 0
		if pads {
			ahead, behind = r.Intn(size), r.Intn(size)
		}
		if size <= ahead+side+behind {
			return size, step, ahead, behind
		}
	}
}

func anyWindow(r *rand.Rand, a api.Shape, pads bool) api.Window {
	var w api.Window
	w.KH, w.SH, w.Top, w.Bottom = anySide(r, a.H, pads)
	w.KW, w.SW, w.Left, w.Right = anySide(r, a.W, pads)
	return w
}

// sameShape is any tensor that has the shape of that one.
func sameShape(r *rand.Rand, shapes []api.Shape, tensor int) int {
	for {
		if other := r.Intn(len(shapes)); shapes[other] == shapes[tensor] {
			return other
		}
	}
}

// anyOp is an op of any kind that reads one of the tensors of these shapes.
func anyOp(r *rand.Rand, shapes []api.Shape) api.Op {
	at := r.Intn(len(shapes))
	a := shapes[at]
	pads := r.Intn(3) > 0
	op := []api.Op{
		dense(a, 1+r.Intn(4)), conv(a, 1+r.Intn(4), anyWindow(r, a, pads)), depthwise(a, anyWindow(r, a, pads)),
		average(anyWindow(r, a, false)), greatest(anyWindow(r, a, false)), add(at, sameShape(r, shapes, at)), rescale(), clamp(),
	}[r.Intn(8)]
	op.A = at
	return op
}

// anyModel is well-formed, of up to so many ops; one that would be too much is
// left out.
func anyModel(r *rand.Rand, most int) api.Model {
	m := api.Model{In: of(1+r.Intn(5), 1+r.Intn(5), 1+r.Intn(4)), Lo: -r.Intn(129), Hi: r.Intn(128)}
	for range r.Intn(most + 1) {
		shapes, _ := model.Shapes(m)
		wider := m
		wider.Ops = append(m.Ops[:len(m.Ops):len(m.Ops)], anyOp(r, shapes))
		if model.Check(wider) == (api.Fault{}) {
			m = wider
		}
	}
	m.Out = r.Intn(len(m.Ops) + 1)
	return m
}

// broken is a model that isn't well-formed: its fault, and what makes it of the
// model of base.
type broken struct {
	name  string
	fault api.Fault
	do    func(m *api.Model)
}

// base has three ops; one of them is made faulty.
func base() api.Model {
	in := of(4, 4, 2)
	return chain(in, conv(in, 2, padded(kernel(3, 3, 1, 1), 1, 1, 1, 1)), conv(in, 2, kernel(1, 1, 1, 1)), conv(in, 2, kernel(1, 1, 1, 1)))
}

func ofModel() []broken {
	fault := func(e api.Errno) api.Fault { return api.Fault{Err: e} }
	return []broken{
		{"no rows", fault(api.ErrShape), func(m *api.Model) { m.In.H = 0 }},
		{"a side too long", fault(api.ErrShape), func(m *api.Model) { m.In.C = api.MaxDim + 1 }},
		{"too many numbers", fault(api.ErrShape), func(m *api.Model) { m.In = of(128, 128, 2) }},
		{"sides as long as can be", fault(api.ErrShape), func(m *api.Model) { m.In = of(math.MaxInt, math.MaxInt, math.MinInt) }},
		{"Lo below", fault(api.ErrRange), func(m *api.Model) { m.Lo = -129 }},
		{"Hi above", fault(api.ErrRange), func(m *api.Model) { m.Hi = 128 }},
		{"Lo above Hi", fault(api.ErrRange), func(m *api.Model) { m.Lo, m.Hi = 1, 0 }},
		{"65 ops", fault(api.ErrMany), func(m *api.Model) { m.Ops = append(m.Ops, make([]api.Op, 62)...) }},
		{"Out below", fault(api.ErrPlace), func(m *api.Model) { m.Out = -1 }},
		{"Out above", fault(api.ErrPlace), func(m *api.Model) { m.Out = 4 }},
		{"an Add of two shapes", api.Fault{Err: api.ErrShape, Op: 2}, func(m *api.Model) { m.Ops[0] = average(kernel(2, 2, 1, 1)); m.Ops[1] = add(0, 1) }},
		{"too much work together", api.Fault{Err: api.ErrWork, Op: 3}, func(m *api.Model) {
			in := of(16, 16, 16)
			m.In = in
			for i := range m.Ops {
				m.Ops[i] = conv(in, 16, kernel(1, 1, 1, 1))
				m.Ops[i].A = i
			}
		}},
	}
}

// ofOp are the faults of one op, whichever of the three it is.
func ofOp(number int) []broken {
	var all []broken
	fault := func(name string, e api.Errno, do func(op *api.Op)) {
		all = append(all, broken{name, api.Fault{Err: e, Op: number}, func(m *api.Model) { do(&m.Ops[number-1]) }})
	}
	fault("Kind 0", api.ErrKind, func(op *api.Op) { op.Kind = 0 })
	fault("Kind 9", api.ErrKind, func(op *api.Op) { op.Kind = 9 })
	fault("its own tensor", api.ErrEdge, func(op *api.Op) { op.A = number })
	fault("a tensor below", api.ErrEdge, func(op *api.Op) { op.A = math.MinInt })
	fault("an Add of its own tensor", api.ErrEdge, func(op *api.Op) { *op = add(0, number) })
	fault("another tensor beside", api.ErrField, func(op *api.Op) { op.B = 1 })
	fault("a Max with padding", api.ErrField, func(op *api.Op) { *op = greatest(padded(kernel(2, 2, 1, 1), 1, 0, 0, 0)) })
	fault("an Average with a bias", api.ErrField, func(op *api.Op) { *op = average(kernel(1, 1, 1, 1)); op.Bias = []int32{1, 1} })
	fault("a Clamp with a scale", api.ErrField, func(op *api.Op) { *op = clamp(); op.SA = times(1) })
	fault("M 0", api.ErrArg, func(op *api.Op) { op.M = 0 })
	fault("M as great as can be", api.ErrArg, func(op *api.Op) { op.M = math.MaxInt })
	fault("no window", api.ErrWindow, func(op *api.Op) { op.Win = api.Window{} })
	fault("a window that doesn't fit", api.ErrWindow, func(op *api.Op) { op.Win = kernel(5, 1, 1, 1) })
	fault("too many numbers", api.ErrShape, func(op *api.Op) { op.M, op.Win = 1024, padded(kernel(3, 3, 1, 1), 2, 2, 2, 2) })
	fault("too long", api.ErrReduce, func(op *api.Op) { op.Win = padded(kernel(32, 32, 1, 1), 31, 31, 31, 31) })
	fault("a weight too few", api.ErrLens, func(op *api.Op) { op.Weights = op.Weights[1:] })
	fault("no weights", api.ErrLens, func(op *api.Op) { op.Weights = nil })
	fault("a bias too many", api.ErrLens, func(op *api.Op) { op.Bias = append(op.Bias, 1) })
	fault("no scale", api.ErrScale, func(op *api.Op) { op.SA = api.Scale{} })
	fault("a shift too far", api.ErrScale, func(op *api.Op) { op.SA.Shift = api.MaxShift + 1 })
	fault("an Add whose second scale is none", api.ErrScale, func(op *api.Op) { *op = add(0, 0); op.SB.Shift = -1 })
	fault("Zero above", api.ErrRange, func(op *api.Op) { op.Zero = 128 })
	fault("Pad below", api.ErrRange, func(op *api.Op) { op.Pad = -129 })
	fault("Lo above Hi", api.ErrRange, func(op *api.Op) { op.Lo, op.Hi = 1, 0 })
	// 11 times 35 positions, 2 channels, sums of 512 terms.
	fault("too much work", api.ErrWork, func(op *api.Op) { *op = conv(of(4, 4, 2), 2, padded(kernel(8, 32, 1, 1), 7, 31, 7, 31)) })
	return all
}

// brokenModels are all of these, each with the fault that layer 8 tells.
func brokenModels() []broken {
	all := ofModel()
	for number := 1; number <= 3; number++ {
		all = append(all, ofOp(number)...)
	}
	return all
}

// model is the one that isn't well-formed.
func (b broken) model() api.Model {
	m := base()
	b.do(&m)
	return m
}

// disturb sets one number of the model, or the length of one of its lists.
func disturb(r *rand.Rand, m *api.Model) {
	to := anyOf(r, 0, 1, 2, 3, -1, 4, 128, -129, 127, -128, 1024, 1025, math.MaxInt, math.MinInt, 1<<32)
	places := []*int{&m.In.H, &m.In.W, &m.In.C, &m.Lo, &m.Hi, &m.Out}
	if len(m.Ops) > 0 {
		op := &m.Ops[r.Intn(len(m.Ops))]
		w := &op.Win
		places = append(places, &op.Kind, &op.A, &op.B, &op.M, &w.KH, &w.KW, &w.SH, &w.SW, &w.Top, &w.Left, &w.Bottom, &w.Right,
			&op.SA.Mult, &op.SA.Shift, &op.SB.Mult, &op.SB.Shift, &op.Zero, &op.Pad, &op.Lo, &op.Hi)
		switch r.Intn(8) {
		case 0:
			op.Weights = op.Weights[:r.Intn(len(op.Weights)+1)]
			return
		case 1:
			op.Bias = append(op.Bias, int32(to))
			return
		}
	}
	*places[r.Intn(len(places))] = to
}

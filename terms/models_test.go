package terms_test

import (
	"math"
	"math/rand"
	"testing"

	"spillway/api"
	"spillway/model"
)

// named is a model that the tests speak of.
type named struct {
	name string
	m    api.Model
}

func of(h, w, c int) api.Shape { return api.Shape{H: h, W: w, C: c} }

// kernel is a window without padding.
func kernel(kh, kw, sh, sw int) api.Window { return api.Window{KH: kh, KW: kw, SH: sh, SW: sw} }

// padded is the window with so much padding at its sides.
func padded(w api.Window, top, left, bottom, right int) api.Window {
	w.Top, w.Left, w.Bottom, w.Right = top, left, bottom, right
	return w
}

// counted are numbers that differ from place to place, so that none can stand
// for another.
func counted[T int16 | int32](n int, from, step T) []T {
	list := make([]T, n)
	for i := range list {
		list[i] = from + T(i)*step
	}
	return list
}

func dense(in api.Shape, m int) api.Op {
	return api.Op{Kind: api.Dense, M: m, Weights: counted[int16](m*in.H*in.W*in.C, -700, 31), Bias: counted[int32](m, 70000, -90001), SA: api.Scale{Mult: 12345, Shift: 21}, Zero: 5, Lo: -101, Hi: 99}
}

func conv(in api.Shape, m int, win api.Window) api.Op {
	n := win.KH * win.KW * in.C * m
	return api.Op{Kind: api.Conv, M: m, Win: win, Weights: counted[int16](n, 300, -17), Bias: counted[int32](m, -5, 3), SA: api.Scale{Mult: 77, Shift: 9}, Zero: -6, Pad: 17, Lo: -90, Hi: 80}
}

func depthwise(in api.Shape, win api.Window) api.Op {
	n := win.KH * win.KW * in.C
	return api.Op{Kind: api.Depthwise, Win: win, Weights: counted[int16](n, -300, 64), Bias: counted[int32](in.C, 1<<20, 1<<14), SA: api.Scale{Mult: 3, Shift: 2}, Zero: 11, Pad: -12, Lo: -64, Hi: 63}
}

func average(win api.Window) api.Op { return api.Op{Kind: api.Average, Win: win, Lo: -60, Hi: 61} }

func greatest(win api.Window) api.Op { return api.Op{Kind: api.Max, Win: win, Lo: -62, Hi: 65} }

func add(a, b int) api.Op {
	return api.Op{Kind: api.Add, A: a, B: b, SA: api.Scale{Mult: 5, Shift: 3}, SB: api.Scale{Mult: 400, Shift: 7}, Zero: -66, Lo: -67, Hi: 68}
}

func rescale() api.Op {
	return api.Op{Kind: api.Rescale, SA: api.Scale{Mult: 1 << 20, Shift: 22}, Zero: 69, Lo: -70, Hi: 71}
}

func clamp() api.Op { return api.Op{Kind: api.Clamp, Lo: -72, Hi: 73} }

// chain is a model in which each op but an Add reads the one ahead of it.
func chain(in api.Shape, ops ...api.Op) api.Model {
	m := api.Model{In: in, Lo: -100, Hi: 110, Out: len(ops)}
	for i, op := range ops {
		if op.Kind != api.Add {
			op.A = i
		}
		m.Ops = append(m.Ops, op)
	}
	return m
}

// star is a model whose ops all read the input.
func star(in api.Shape, ops ...api.Op) api.Model {
	return api.Model{In: in, Lo: -100, Hi: 110, Ops: ops}
}

// denseExample is the first of chapter 8.
func denseExample() api.Model {
	return api.Model{In: of(1, 1, 2), Lo: -128, Hi: 127, Out: 1, Ops: []api.Op{{Kind: api.Dense, M: 1, Weights: []int16{3, -2}, Bias: []int32{1}, SA: api.Scale{Mult: 1}, Lo: -128, Hi: 127}}}
}

// everyKind has ops of all kinds, those that reduce behind others and ahead of
// others, over shapes that all differ in their channels.
func everyKind() api.Model {
	return chain(of(5, 4, 2),
		clamp(),
		conv(of(5, 4, 2), 3, padded(kernel(3, 3, 1, 1), 1, 1, 1, 1)),
		rescale(),
		depthwise(of(5, 4, 3), kernel(2, 2, 1, 1)),
		add(4, 4),
		average(kernel(2, 1, 2, 1)),
		greatest(kernel(1, 2, 1, 1)),
		dense(of(2, 2, 3), 4),
		dense(of(1, 1, 4), 2),
	)
}

// skipping has ops that read a tensor that isn't the one ahead of them, of
// another shape than that.
func skipping() api.Model {
	m := chain(of(3, 5, 2),
		conv(of(3, 5, 2), 4, kernel(3, 1, 1, 1)),
		dense(of(1, 5, 4), 3),
		average(kernel(2, 2, 1, 1)),
		depthwise(of(1, 5, 4), kernel(1, 3, 1, 2)),
		conv(of(2, 4, 2), 1, kernel(2, 2, 1, 1)),
		dense(of(3, 5, 2), 2),
	)
	m.Ops[2].A, m.Ops[3].A, m.Ops[4].A, m.Ops[5].A = 0, 1, 3, 0
	m.Out = 0
	return m
}

// sides has a window for each way in which padding lies about a plane.
func sides() api.Model {
	in := of(3, 4, 2)
	k := kernel(2, 3, 1, 1)
	m := star(in)
	for _, w := range []api.Window{
		k, padded(k, 1, 0, 0, 0), padded(k, 0, 2, 0, 0), padded(k, 0, 0, 1, 0), padded(k, 0, 0, 0, 2), padded(k, 1, 2, 1, 2),
		padded(kernel(3, 3, 2, 1), 2, 0, 1, 2), padded(kernel(3, 3, 1, 2), 0, 2, 2, 1), padded(kernel(2, 2, 3, 2), 1, 1, 1, 1),
		kernel(3, 4, 1, 1), kernel(1, 1, 1, 1), kernel(1, 1, 3, 3), kernel(1, 1, 32, 32),
	} {
		m.Ops = append(m.Ops, conv(in, 2, w), depthwise(in, w))
		if w == kernel(w.KH, w.KW, w.SH, w.SW) {
			m.Ops = append(m.Ops, average(w))
		}
	}
	return m
}

// reach has windows greater than their plane, so that each position has
// padding in it.
func reach() api.Model {
	in := of(1, 1, 3)
	return star(in,
		conv(in, 2, padded(kernel(3, 3, 1, 1), 2, 2, 2, 2)),
		depthwise(in, padded(kernel(5, 2, 2, 1), 4, 1, 4, 1)),
		conv(in, 1, padded(kernel(4, 1, 3, 1), 3, 0, 0, 0)),
		depthwise(in, padded(kernel(1, 4, 1, 2), 0, 3, 0, 3)),
	)
}

func emptyLists(m api.Model) api.Model {
	for i := range m.Ops {
		if m.Ops[i].Weights == nil {
			m.Ops[i].Weights, m.Ops[i].Bias = []int16{}, []int32{}
		}
	}
	return m
}

// endsOfNumbers has weights and biases at both their ends.
func endsOfNumbers() api.Model {
	op := dense(of(1, 1, 2), 3)
	op.Weights = []int16{math.MinInt16, math.MaxInt16, -1, 0, 1, math.MinInt16}
	op.Bias = []int32{math.MinInt32, math.MaxInt32, 0}
	side := depthwise(of(1, 1, 2), kernel(1, 1, 1, 1))
	side.Weights, side.Bias = []int16{math.MaxInt16, math.MinInt16}, []int32{math.MaxInt32, math.MinInt32}
	return star(of(1, 1, 2), op, side)
}

// greatModels are at the limits.
func greatModels() []named {
	many := make([]api.Op, api.MaxOps)
	for i := range many {
		many[i] = average(kernel(1, 1, 1, 1))
	}
	wide := padded(kernel(32, 16, 32, 32), 31, 15, 31, 15)
	return []named{
		{"64 ops", chain(of(1, 2, 3), many...)},
		{"131072 weights", chain(of(8, 8, 8), dense(of(8, 8, 8), 256))},
		{"1024 channels", chain(of(1, 128, 1), dense(of(1, 128, 1), 1024))},
		{"1024 channels of A", chain(of(2, 2, 1024), depthwise(of(2, 2, 1024), padded(kernel(2, 2, 1, 1), 1, 1, 1, 1)))},
		{"16384 positions", chain(of(128, 128, 1), average(kernel(2, 2, 1, 1)), conv(of(127, 127, 1), 1, kernel(2, 2, 1, 1)))},
		{"a wide window", chain(of(16, 1024, 1), conv(of(16, 1024, 1), 3, wide))},
	}
}

func allModels() []named {
	return append([]named{
		{"the example", denseExample()},
		{"every kind", everyKind()},
		{"every kind, lists that are empty, not nil", emptyLists(everyKind())},
		{"skipping", skipping()},
		{"sides", sides()},
		{"reach", reach()},
		{"ends of numbers", endsOfNumbers()},
		{"no ops", star(of(2, 2, 2))},
	}, greatModels()...)
}

func TestModelsAreWellFormed(t *testing.T) {
	for _, n := range allModels() {
		if f := model.Check(n.m); f != (api.Fault{}) {
			t.Errorf("%s: %v", n.name, f)
		}
	}
}

func anyOf[T any](r *rand.Rand, all ...T) T { return all[r.Intn(len(all))] }

func anyValue(r *rand.Rand) int { return r.Intn(256) - 128 }

func anyScale(r *rand.Rand) api.Scale {
	return api.Scale{Mult: 1 + r.Intn(math.MaxInt32), Shift: r.Intn(api.MaxShift + 1)}
}

// anySide is a window's size, step and padding along a side of that length.
func anySide(r *rand.Rand, side int, pads bool) (size, step, ahead, behind int) {
	for {
		size, step, ahead, behind = 1+r.Intn(4), anyOf(r, 1, 1, 2, 3, 32), 0, 0
		if pads {
			ahead, behind = r.Intn(size), r.Intn(size)
		}
		if size <= ahead+side+behind {
			return size, step, ahead, behind
		}
	}
}

func anyWindow(r *rand.Rand, a api.Shape, pads bool) api.Window {
	var w api.Window
	w.KH, w.SH, w.Top, w.Bottom = anySide(r, a.H, pads)
	w.KW, w.SW, w.Left, w.Right = anySide(r, a.W, pads)
	return w
}

// withNumbers fills in lists and numbers as the kind has them.
func withNumbers(r *rand.Rand, op api.Op, weights, bias int) api.Op {
	for range weights {
		op.Weights = append(op.Weights, int16(r.Int()))
	}
	for range bias {
		op.Bias = append(op.Bias, int32(r.Int()))
	}
	op.SA, op.Zero = anyScale(r), anyValue(r)
	return op
}

// anyOp is an op of any kind that reads one of the tensors of these shapes.
func anyOp(r *rand.Rand, shapes []api.Shape) api.Op {
	at := r.Intn(len(shapes))
	a := shapes[at]
	op := api.Op{Kind: 1 + r.Intn(8), A: at, Lo: -1 - r.Intn(128), Hi: r.Intn(128)}
	switch op.Kind {
	case api.Dense:
		op.M = 1 + r.Intn(4)
		return withNumbers(r, op, op.M*a.H*a.W*a.C, op.M)
	case api.Conv:
		op.M, op.Win, op.Pad = 1+r.Intn(4), anyWindow(r, a, true), anyValue(r)
		return withNumbers(r, op, op.M*op.Win.KH*op.Win.KW*a.C, op.M)
	case api.Depthwise:
		op.Win, op.Pad = anyWindow(r, a, true), anyValue(r)
		return withNumbers(r, op, op.Win.KH*op.Win.KW*a.C, a.C)
	case api.Average, api.Max:
		op.Win = anyWindow(r, a, false)
	case api.Add:
		op.B, op.SB = at, anyScale(r)
		return withNumbers(r, op, 0, 0)
	case api.Rescale:
		return withNumbers(r, op, 0, 0)
	}
	return op
}

// anyModel is well-formed, of up to so many ops; one that would be too much is
// left out.
func anyModel(r *rand.Rand, most int) api.Model {
	m := api.Model{In: of(1+r.Intn(5), 1+r.Intn(5), 1+r.Intn(4)), Lo: -1 - r.Intn(128), Hi: r.Intn(128)}
	for range r.Intn(most + 1) {
		shapes, _ := model.Shapes(m)
		wider := m
		wider.Ops = append(m.Ops[:len(m.Ops):len(m.Ops)], anyOp(r, shapes))
		if model.Check(wider) == (api.Fault{}) {
			m = wider
		}
	}
	m.Out = r.Intn(len(m.Ops) + 1)
	return m
}

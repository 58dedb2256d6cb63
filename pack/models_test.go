package pack_test

import (
	"math"
	"math/rand"
	"strconv"
	"testing"

	"spillway/api"
	"spillway/model"
)

// named is a model that the tests speak of.
type named struct {
	name string
	m    api.Model
}

func of(h, w, c int) api.Shape { return api.Shape{H: h, W: w, C: c} }

func one() api.Scale { return api.Scale{Mult: 1} }

// square is a window of n by n with steps of one and so much padding all about.
func square(n, padding int) api.Window {
	return api.Window{KH: n, KW: n, SH: 1, SW: 1, Top: padding, Left: padding, Bottom: padding, Right: padding}
}

// counted are numbers that differ from place to place, so that none can stand
// for another.
func counted[T int16 | int32](n int, from, step T) []T {
	list := make([]T, n)
	for i := range list {
		list[i] = from + T(i)*step
	}
	return list
}

// dense over so many numbers, its fields all of their own.
func dense(length, m int) api.Op {
	return api.Op{Kind: api.Dense, M: m, Weights: counted[int16](m*length, -7, 31), Bias: counted[int32](m, 70000, -90001), SA: api.Scale{Mult: 12345, Shift: 21}, Zero: 5, Lo: -101, Hi: 99}
}

func conv(channels, m int, win api.Window) api.Op {
	n := win.KH * win.KW * channels * m
	return api.Op{Kind: api.Conv, M: m, Win: win, Weights: counted[int16](n, 300, -17), Bias: counted[int32](m, -5, 3), SA: api.Scale{Mult: 77, Shift: 9}, Zero: -6, Pad: 17, Lo: -90, Hi: 80}
}

func depthwise(channels int, win api.Window) api.Op {
	n := win.KH * win.KW * channels
	return api.Op{Kind: api.Depthwise, Win: win, Weights: counted[int16](n, -300, 64), Bias: counted[int32](channels, 1<<20, 1<<14), SA: api.Scale{Mult: 3, Shift: 2}, Zero: 11, Pad: -12, Lo: -64, Hi: 63}
}

func average(win api.Window) api.Op { return api.Op{Kind: api.Average, Win: win, Lo: -60, Hi: 61} }

func greatest(win api.Window) api.Op { return api.Op{Kind: api.Max, Win: win, Lo: -62, Hi: 65} }

func add(a, b int) api.Op {
	return api.Op{Kind: api.Add, A: a, B: b, SA: api.Scale{Mult: 5, Shift: 3}, SB: api.Scale{Mult: 400, Shift: 7}, Zero: -66, Lo: -67, Hi: 68}
}

func rescale() api.Op {
	return api.Op{Kind: api.Rescale, SA: api.Scale{Mult: 1 << 20, Shift: 22}, Zero: 69, Lo: -70, Hi: 71}
}

func clamp() api.Op { return api.Op{Kind: api.Clamp, Lo: -72, Hi: 73} }

// after has the op read the tensor a.
func after(a int, op api.Op) api.Op {
	op.A = a
	return op
}

// chain is a model in which each op but an Add reads the one ahead of it.
func chain(in api.Shape, ops ...api.Op) api.Model {
	m := api.Model{In: in, Lo: -100, Hi: 110, Out: len(ops)}
	for i, op := range ops {
		if op.Kind != api.Add {
			op.A = i
		}
		m.Ops = append(m.Ops, op)
	}
	return m
}

// example is the chapter's.
func example() (api.Model, []byte) {
	m := api.Model{In: of(1, 1, 2), Lo: -128, Hi: 127, Out: 1, Ops: []api.Op{{Kind: api.Dense, M: 1, Weights: []int16{3, -2}, Bias: []int32{1}, SA: one(), Lo: -128, Hi: 127}}}
	return m, []byte{
		0x53, 0x57, 0x4d, 0x31,
		0x01, 0x01, 0x02, 0xff, 0x01, 0xfe, 0x01, 0x01,
		0x01, 0x00, 0x00, 0x01,
		0x00, 0x00, 0x00, 0x00, 0x00, 0x00, 0x00, 0x00,
		0x02, 0x06, 0x03, 0x01, 0x02,
		0x01, 0x00, 0x00, 0x00,
		0x00, 0x00, 0xff, 0x01, 0xfe, 0x01,
		0x01,
	}
}

// smallModels are short enough that every byte of theirs can be turned.
func smallModels() []named {
	m, _ := example()
	all := []named{
		{"the example", m},
		{"no ops", api.Model{In: of(1, 1, 1)}},
		{"no ops, an empty list", api.Model{In: of(3, 1000, 5), Lo: -128, Hi: -128, Ops: []api.Op{}}},
		{"all kinds", everyKind()},
		{"lists that are empty, not nil", emptyLists(everyKind())},
		{"the ends of every form", endsOfForms()},
		{"an output that isn't the last", firstOut(everyKind())},
	}
	in := of(4, 6, 3)
	for i, op := range []api.Op{
		dense(72, 2), conv(3, 2, square(2, 1)), depthwise(3, api.Window{KH: 3, KW: 2, SH: 2, SW: 4, Top: 2, Left: 1, Bottom: 1}),
		average(api.Window{KH: 3, KW: 2, SH: 2, SW: 4}), greatest(api.Window{KH: 2, KW: 3, SH: 5, SW: 2}), add(0, 0), rescale(), clamp(),
	} {
		all = append(all, named{"kind " + strconv.Itoa(i+1), chain(in, op)})
	}
	return all
}

func everyKind() api.Model {
	return chain(of(4, 4, 2), conv(2, 3, square(3, 1)), depthwise(3, square(2, 0)), average(square(2, 0)), greatest(square(2, 0)),
		add(4, 4), rescale(), clamp(), add(5, 7), dense(3, 2))
}

func emptyLists(m api.Model) api.Model {
	for i := range m.Ops {
		if m.Ops[i].Weights == nil {
			m.Ops[i].Weights, m.Ops[i].Bias = []int16{}, []int32{}
		}
	}
	return m
}

func firstOut(m api.Model) api.Model {
	m.Out = 1
	return m
}

// endsOfForms has weights, biases, scales and values at both their ends.
func endsOfForms() api.Model {
	op := dense(2, 2)
	op.Weights = []int16{math.MinInt16, math.MaxInt16, -1, 0}
	op.Bias = []int32{math.MinInt32, math.MaxInt32}
	op.SA = api.Scale{Mult: math.MaxInt32, Shift: api.MaxShift}
	op.Zero, op.Lo, op.Hi = -128, -128, 127
	side := conv(2, 1, square(1, 0))
	side.Zero, side.Pad, side.Lo, side.Hi = 127, -128, 127, 127
	sum := add(1, 1)
	sum.SB = api.Scale{Mult: math.MaxInt32, Shift: api.MaxShift}
	m := chain(of(1, 1, 2), op, side, sum)
	m.Ops[1].A = 0
	m.Lo, m.Hi = -128, 127
	return m
}

// greatModels are at the limits.
func greatModels() []named {
	many := make([]api.Op, api.MaxOps)
	for i := range many {
		many[i] = clamp()
	}
	wide := api.Window{KH: 32, KW: 16, SH: 32, SW: 32, Top: 31, Left: 15, Bottom: 31, Right: 15}
	return []named{
		{"64 ops", chain(of(1, 2, 1), many...)},
		{"131072 weights", chain(of(8, 8, 8), dense(512, 256))},
		{"1024 biases", chain(of(1, 128, 1), dense(128, 1024))},
		{"a side of 1024", chain(of(1024, 1, 16), clamp())},
		{"a wide window", chain(of(16, 1024, 1), conv(1, 3, wide))},
	}
}

func allModels() []named { return append(smallModels(), greatModels()...) }

func TestModelsAreWellFormed(t *testing.T) {
	for _, n := range allModels() {
		if f := model.Check(n.m); f != (api.Fault{}) {
			t.Errorf("%s: %v", n.name, f)
		}
	}
}

func anyOf[T any](r *rand.Rand, all ...T) T { return all[r.Intn(len(all))] }

func anyValue(r *rand.Rand) int { return r.Intn(256) - 128 }

func anyScale(r *rand.Rand) api.Scale {
	return api.Scale{Mult: anyOf(r, 1, 127, 128, 1<<30, math.MaxInt32, 1+r.Intn(1<<20)), Shift: r.Intn(api.MaxShift + 1)}
}

func anyWindow(r *rand.Rand, a api.Shape, pads bool) api.Window {
	w := api.Window{KH: 1 + r.Intn(min(a.H, 3)), KW: 1 + r.Intn(min(a.W, 3)), SH: 1 + r.Intn(3), SW: 1 + r.Intn(32)}
	if pads {
		w.Top, w.Left, w.Bottom, w.Right = r.Intn(w.KH), r.Intn(w.KW), r.Intn(w.KH), r.Intn(w.KW)
	}
	return w
}

// withNumbers fills in lists and numbers as the kind has them.
func withNumbers(r *rand.Rand, op api.Op, weights, bias int) api.Op {
	for range weights {
		op.Weights = append(op.Weights, anyOf(r, math.MinInt16, math.MaxInt16, 0, 63, 64, -64, -65, int16(r.Int())))
	}
	for range bias {
		op.Bias = append(op.Bias, anyOf(r, math.MinInt32, math.MaxInt32, 0, int32(r.Intn(200)), int32(r.Int())))
	}
	op.SA, op.Zero = anyScale(r), anyValue(r)
	return op
}

// anyOp is an op of any kind that reads one of the tensors of these shapes.
func anyOp(r *rand.Rand, shapes []api.Shape) api.Op {
	at := r.Intn(len(shapes))
	a := shapes[at]
	op := api.Op{Kind: 1 + r.Intn(8), A: at, Lo: -1 - r.Intn(128), Hi: r.Intn(128)}
	switch op.Kind {
	case api.Dense:
		op.M = 1 + r.Intn(3)
		return withNumbers(r, op, op.M*a.H*a.W*a.C, op.M)
	case api.Conv:
		op.M, op.Win, op.Pad = 1+r.Intn(3), anyWindow(r, a, true), anyValue(r)
		return withNumbers(r, op, op.M*op.Win.KH*op.Win.KW*a.C, op.M)
	case api.Depthwise:
		op.Win, op.Pad = anyWindow(r, a, true), anyValue(r)
		return withNumbers(r, op, op.Win.KH*op.Win.KW*a.C, a.C)
	case api.Average, api.Max:
		op.Win = anyWindow(r, a, false)
	case api.Add:
		op.B, op.SB = at, anyScale(r)
		return withNumbers(r, op, 0, 0)
	case api.Rescale:
		return withNumbers(r, op, 0, 0)
	}
	return op
}

// anyModel is well-formed, of up to so many ops.
func anyModel(t *testing.T, r *rand.Rand, most int) api.Model {
	m := api.Model{In: of(1+r.Intn(5), 1+r.Intn(5), 1+r.Intn(4)), Lo: -1 - r.Intn(128), Hi: r.Intn(128)}
	for range r.Intn(most + 1) {
		shapes, f := model.Shapes(m)
		if f != (api.Fault{}) {
			t.Fatalf("%+v: %v", m, f)
		}
		m.Ops = append(m.Ops, anyOp(r, shapes))
	}
	m.Out = r.Intn(len(m.Ops) + 1)
	return m
}

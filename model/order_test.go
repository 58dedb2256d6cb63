package model_test

import (
	"fmt"
	"math"
	"math/rand"
	"slices"
	"testing"

	"spillway/api"
	"spillway/model"
)

// turn makes one fault of the chapter, by its number there.
type turn struct {
	number int
	err    api.Errno
	do     func(m *api.Model)
}

// sheet is a well-formed model, an op of it, and the faults that such an op can
// have, in their order, each made without the others.
type sheet struct {
	name  string
	base  func() api.Model
	at    int
	turns []turn
}

// turnsOfAll are the faults that an op of any kind can have; beside sets a
// field that its kind doesn't use.
func turnsOfAll(at int, beside func(op *api.Op)) []turn {
	return []turn{
		{5, api.ErrKind, func(m *api.Model) { m.Ops[at-1].Kind = 9 }},
		{6, api.ErrEdge, func(m *api.Model) { m.Ops[at-1].A = at }},
		{7, api.ErrField, func(m *api.Model) { beside(&m.Ops[at-1]) }},
		{14, api.ErrRange, func(m *api.Model) { m.Ops[at-1].Lo = -129 }},
	}
}

func with(turns []turn, more ...turn) []turn {
	all := append(slices.Clone(turns), more...)
	slices.SortStableFunc(all, func(a, b turn) int { return a.number - b.number })
	return all
}

// lists makes the op's lists anew.
func lists(op *api.Op, weights, bias int) {
	op.Weights, op.Bias = make([]int16, weights), make([]int32, bias)
}

func denseSheet() sheet {
	in := of(1, 1, 512)
	return sheet{"Dense", func() api.Model { return chain(in, dense(in, 2), clamp()) }, 1,
		with(turnsOfAll(1, func(op *api.Op) { op.Win.SW = 1 }),
			turn{8, api.ErrArg, func(m *api.Model) { m.Ops[0].M = 1025 }},
			turn{11, api.ErrReduce, func(m *api.Model) { m.In.C = 513; lists(&m.Ops[0], 2*513, 2) }},
			turn{12, api.ErrLens, func(m *api.Model) { m.Ops[0].Bias = append(m.Ops[0].Bias, 0) }},
			turn{13, api.ErrScale, func(m *api.Model) { m.Ops[0].SA.Mult = 0 }},
			turn{14, api.ErrRange, func(m *api.Model) { m.Ops[0].Zero = 128 }},
			turn{15, api.ErrWork, func(m *api.Model) { m.Ops[0].M = 257; lists(&m.Ops[0], 257*512, 257) }})}
}

func convSheet() sheet {
	in := of(1024, 1, 1)
	return sheet{"Conv", func() api.Model { return chain(in, clamp(), conv(in, 2, kernel(32, 1, 1, 1)), clamp()) }, 2,
		with(turnsOfAll(2, func(op *api.Op) { op.SB.Shift = -1 }),
			turn{8, api.ErrArg, func(m *api.Model) { m.Ops[1].M = 0 }},
			turn{9, api.ErrWindow, func(m *api.Model) { m.Ops[1].Win.SH = 0 }},
			turn{10, api.ErrShape, func(m *api.Model) { m.Ops[1].Win.Top, m.Ops[1].Win.Bottom = 31, 31 }},
			turn{11, api.ErrReduce, func(m *api.Model) {
				w := &m.Ops[1].Win
				w.KW, w.Left, w.Right = 17, 8, 8
				lists(&m.Ops[1], 2*544, 2)
			}},
			turn{12, api.ErrLens, func(m *api.Model) { m.Ops[1].Weights = append(m.Ops[1].Weights, 0) }},
			turn{13, api.ErrScale, func(m *api.Model) { m.Ops[1].SA.Shift = 63 }},
			turn{14, api.ErrRange, func(m *api.Model) { m.Ops[1].Pad = 128 }},
			turn{15, api.ErrWork, func(m *api.Model) { m.Ops[1].M = 5; lists(&m.Ops[1], 5*32, 5) }})}
}

func depthwiseSheet() sheet {
	in := of(1024, 1, 1)
	return sheet{"Depthwise", func() api.Model { return chain(in, clamp(), depthwise(in, kernel(32, 1, 1, 1)), clamp()) }, 2,
		with(turnsOfAll(2, func(op *api.Op) { op.M = 1 }),
			turn{9, api.ErrWindow, func(m *api.Model) { m.Ops[1].Win.SW = 33 }},
			turn{10, api.ErrShape, func(m *api.Model) { m.Ops[1].Win.Top, m.Ops[1].Win.Bottom = 31, 31 }},
			turn{11, api.ErrReduce, func(m *api.Model) {
				w := &m.Ops[1].Win
				w.KW, w.Left, w.Right = 17, 8, 8
				lists(&m.Ops[1], 544, 1)
			}},
			turn{12, api.ErrLens, func(m *api.Model) { m.Ops[1].Bias = nil }},
			turn{13, api.ErrScale, func(m *api.Model) { m.Ops[1].SA.Mult = -1 }},
			turn{14, api.ErrRange, func(m *api.Model) { m.Ops[1].Pad = -129 }},
			turn{15, api.ErrWork, func(m *api.Model) {
				w := &m.Ops[1].Win
				w.KW, w.Left, w.Right = 16, 8, 8
				lists(&m.Ops[1], 512, 1)
			}})}
}

func averageSheet() sheet {
	return sheet{"Average", func() api.Model { return chain(of(64, 64, 1), clamp(), average(kernel(2, 2, 1, 1)), clamp()) }, 2,
		with(turnsOfAll(2, func(op *api.Op) { op.Win.Right = 1 }),
			turn{9, api.ErrWindow, func(m *api.Model) { m.Ops[1].Win.SH = -1 }},
			turn{11, api.ErrReduce, func(m *api.Model) { m.Ops[1].Win.KH, m.Ops[1].Win.KW = 32, 17 }},
			turn{15, api.ErrWork, func(m *api.Model) { m.Ops[1].Win.KH, m.Ops[1].Win.KW = 16, 16 }})}
}

func maxSheet() sheet {
	return sheet{"Max", func() api.Model { return chain(of(64, 64, 1), greatest(kernel(2, 2, 1, 1)), clamp()) }, 1,
		with(turnsOfAll(1, func(op *api.Op) { op.Win.Top = -1 }),
			turn{9, api.ErrWindow, func(m *api.Model) { m.Ops[0].Win.SH = 33 }},
			turn{15, api.ErrWork, func(m *api.Model) { m.Ops[0].Win.KH, m.Ops[0].Win.KW = 32, 32 }})}
}

// plainSheet is of an op that makes 16384 numbers and is the eighth: the work
// is 131072 with it. The first op makes another shape.
func plainSheet(name string, op api.Op, beside func(op *api.Op), more ...turn) sheet {
	base := func() api.Model {
		m := chain(of(128, 128, 1), average(kernel(1, 2, 1, 2)))
		for range 6 {
			m.Ops = append(m.Ops, clamp())
		}
		m.Ops = append(m.Ops, op)
		return m
	}
	more = append(more, turn{15, api.ErrWork, func(m *api.Model) { m.Ops[0].Win = kernel(1, 3, 1, 2) }})
	return sheet{name, base, 8, with(turnsOfAll(8, beside), more...)}
}

func sheets() []sheet {
	edge := turn{6, api.ErrEdge, func(m *api.Model) { m.Ops[7].B = 8 }}
	other := turn{10, api.ErrShape, func(m *api.Model) { m.Ops[7].B = 1 }}
	scale := turn{13, api.ErrScale, func(m *api.Model) { m.Ops[7].SA = api.Scale{} }}
	second := turn{13, api.ErrScale, func(m *api.Model) { m.Ops[7].SB.Shift = 63 }}
	zero := turn{14, api.ErrRange, func(m *api.Model) { m.Ops[7].Zero = -129 }}
	return []sheet{
		denseSheet(), convSheet(), depthwiseSheet(), averageSheet(), maxSheet(),
		plainSheet("Add", add(0, 2), func(op *api.Op) { op.Pad = 1 }, edge, other, scale, second, zero),
		plainSheet("Rescale", rescale(), func(op *api.Op) { op.Weights = make([]int16, 1) }, scale, zero),
		plainSheet("Clamp", clamp(), func(op *api.Op) { op.Bias = make([]int32, 1) }),
	}
}

// modelTurns are the faults of a model itself.
func modelTurns() []turn {
	return []turn{
		{1, api.ErrShape, func(m *api.Model) { m.In.H = 0 }},
		{2, api.ErrRange, func(m *api.Model) { m.Lo, m.Hi = 1, 0 }},
		{3, api.ErrMany, func(m *api.Model) { m.Ops = append(m.Ops, make([]api.Op, 64)...) }},
		{4, api.ErrPlace, func(m *api.Model) { m.Out = -1 }},
	}
}

// P8.1: each fault of an op alone, and each two of them: the one with the lower
// number is answered. The earlier one is made last, so that the later one can't
// take it back.
func TestOrderInAnOp(t *testing.T) {
	for _, s := range sheets() {
		expectGood(t, s.name, s.base())
		for i, first := range s.turns {
			m := s.base()
			first.do(&m)
			expectFault(t, fmt.Sprintf("%s, fault %d", s.name, first.number), m, first.err, s.at)
			for _, second := range s.turns[i+1:] {
				m := s.base()
				second.do(&m)
				first.do(&m)
				expectFault(t, fmt.Sprintf("%s, faults %d and %d", s.name, first.number, second.number), m, first.err, s.at)
			}
		}
	}
}

// P8.1: all faults from one on at once.
func TestOrderOfAll(t *testing.T) {
	for _, s := range sheets() {
		for i, first := range s.turns {
			m := s.base()
			for k := len(s.turns) - 1; k >= i; k-- {
				s.turns[k].do(&m)
			}
			expectFault(t, fmt.Sprintf("%s, faults from %d on", s.name, first.number), m, first.err, s.at)
		}
	}
}

// P8.1: the model's own faults come first, in their order, whatever its ops
// have.
func TestOrderInTheModel(t *testing.T) {
	for _, s := range sheets() {
		for i, first := range modelTurns() {
			m := s.base()
			first.do(&m)
			expectFault(t, fmt.Sprintf("%s, fault %d", s.name, first.number), m, first.err, 0)
			for _, second := range append(modelTurns()[i+1:], s.turns...) {
				m := s.base()
				second.do(&m)
				first.do(&m)
				expectFault(t, fmt.Sprintf("%s, faults %d and %d", s.name, first.number, second.number), m, first.err, 0)
			}
		}
	}
}

// P8.1: of two ops' faults the earlier op's is answered, whichever comes first
// within an op.
func TestOrderOfOps(t *testing.T) {
	for _, s := range sheets() {
		for _, first := range s.turns {
			for _, bad := range []api.Op{{}, {Kind: 9}, {Kind: api.Clamp, A: -1}, {Kind: api.Clamp, Pad: 1}, {Kind: api.Dense}, {Kind: api.Max}, {Kind: api.Clamp, Hi: 128}} {
				m := s.base()
				first.do(&m)
				m.Ops = append(m.Ops, bad)
				expectFault(t, fmt.Sprintf("%s, fault %d, then another op's", s.name, first.number), m, first.err, s.at)
				if s.at > 1 && first.number != 15 {
					m.Ops[0].Hi = 128
					expectFault(t, fmt.Sprintf("%s, fault %d, behind another op's", s.name, first.number), m, api.ErrRange, 1)
				}
			}
		}
	}
}

// anyOf is one of these.
func anyOf[T any](r *rand.Rand, all ...T) T { return all[r.Intn(len(all))] }

func anyWindow(r *rand.Rand, a api.Shape, pads bool) api.Window {
	w := kernel(1+r.Intn(min(a.H, 5)), 1+r.Intn(min(a.W, 5)), 1+r.Intn(3), 1+r.Intn(3))
	if pads {
		w = padded(w, r.Intn(w.KH), r.Intn(w.KW), r.Intn(w.KH), r.Intn(w.KW))
	}
	return w
}

// anyOp is a well-formed op that reads some of the tensors, most times.
func anyOp(r *rand.Rand, shapes []api.Shape) api.Op {
	at := r.Intn(len(shapes))
	a := shapes[at]
	var op api.Op
	switch 1 + r.Intn(8) {
	case api.Dense:
		op = dense(a, 1+r.Intn(6))
	case api.Conv:
		op = conv(a, 1+r.Intn(6), anyWindow(r, a, true))
	case api.Depthwise:
		op = depthwise(a, anyWindow(r, a, true))
	case api.Average:
		op = average(anyWindow(r, a, false))
	case api.Max:
		op = greatest(anyWindow(r, a, false))
	case api.Add:
		op = add(0, r.Intn(len(shapes)))
		for i, s := range shapes {
			if s == a && r.Intn(3) > 0 {
				op.B = i
			}
		}
	case api.Rescale:
		op = rescale()
	case api.Clamp:
		op = clamp()
	}
	return reading(at, op)
}

// disturb changes one number or one list of the model.
func disturb(r *rand.Rand, m *api.Model) {
	x := anyOf(r, math.MinInt, -129, -128, -1, 0, 1, 2, 3, 31, 32, 33, 62, 63, 127, 128, 512, 513, 1024, 1025, 1<<31-1, 1<<31, 1<<32, 1<<62, math.MaxInt)
	if len(m.Ops) == 0 || r.Intn(8) == 0 {
		*anyOf(r, &m.In.H, &m.In.W, &m.In.C, &m.Lo, &m.Hi, &m.Out) = x
		return
	}
	op := &m.Ops[r.Intn(len(m.Ops))]
	switch r.Intn(30) {
	case 0:
		op.Kind = anyOf(r, 0, 1, 2, 3, 4, 5, 6, 7, 8, 9, x)
	case 1:
		op.A = anyOf(r, x, r.Intn(4))
	case 2, 3:
		*anyOf(r, &op.Lo, &op.Hi) = x
	case 4:
		op.Weights = op.Weights[:max(0, len(op.Weights)-1)]
	case 5:
		op.Weights = append(op.Weights, 0)
	case 6:
		op.Bias = op.Bias[:max(0, len(op.Bias)-1)]
	case 7:
		op.Bias = append(op.Bias, 0)
	default:
		anyOf(r, fieldsOfAnOp()...).set(op, anyOf(r, x, r.Intn(4)))
	}
}

// P8.1, P8.2: models of some ops, well-formed ones and such with some numbers
// and lists changed, against the chapter read line by line.
func TestAgainstTheChapter(t *testing.T) {
	r := rand.New(rand.NewSource(8))
	seen := map[api.Errno]int{}
	for n := range 60000 {
		m := chain(of(1+r.Intn(9), 1+r.Intn(9), 1+r.Intn(4)))
		if n%4 == 0 {
			m.In = anyOf(r, of(128, 128, 1), of(1, 1, 512), of(1, 1024, 3), of(1024, 1, 16), of(16, 16, 64))
		}
		shapes := []api.Shape{m.In}
		for range r.Intn(7) {
			m.Ops = append(m.Ops, anyOp(r, shapes))
			// An op that has a fault makes nothing that others could read.
			if v := judge(m); v.fault == (api.Fault{}) {
				shapes = v.shapes
			} else if r.Intn(4) > 0 {
				m.Ops = m.Ops[:len(m.Ops)-1]
			}
		}
		m.Out = r.Intn(len(m.Ops) + 1)
		for range r.Intn(4) {
			disturb(r, &m)
		}
		want := judge(m)
		seen[want.fault.Err]++
		expect(t, fmt.Sprint("model ", n), m, want)
		if t.Failed() {
			t.Fatalf("%+v", m)
		}
	}
	for _, e := range []api.Errno{api.OK, api.ErrShape, api.ErrRange, api.ErrPlace, api.ErrKind, api.ErrEdge, api.ErrField, api.ErrArg, api.ErrWindow, api.ErrReduce, api.ErrLens, api.ErrScale, api.ErrWork} {
		if seen[e] < 100 {
			t.Errorf("error %d was met %d times only", e, seen[e])
		}
	}
}

// roomy is a copy of the list with something in its spare room.
func roomy[T any](list []T, fill T) []T {
	all := append(slices.Clone(list), fill, fill, fill)
	return all[:len(list)]
}

// deep is a copy of the model, its lists' spare room too.
func deep(m api.Model) api.Model {
	m.Ops = slices.Clone(m.Ops[:cap(m.Ops)])
	for i := range m.Ops {
		op := &m.Ops[i]
		op.Weights = slices.Clone(op.Weights[:cap(op.Weights)])
		op.Bias = slices.Clone(op.Bias[:cap(op.Bias)])
	}
	return m
}

// Rule 7: a model's lists stay as they were, their spare room too, whether the
// model is well-formed or not.
func TestModelStaysAsItWas(t *testing.T) {
	for _, s := range sheets() {
		for _, each := range append(modelTurns(), append(s.turns, turn{do: func(*api.Model) {}})...) {
			m := s.base()
			each.do(&m)
			for i := range m.Ops {
				for k := range m.Ops[i].Weights {
					m.Ops[i].Weights[k] = int16(k + 1)
				}
				m.Ops[i].Weights = roomy(m.Ops[i].Weights, 77)
				m.Ops[i].Bias = roomy(m.Ops[i].Bias, -77)
			}
			m.Ops = roomy(m.Ops, api.Op{Kind: 5, A: 6, Weights: []int16{1}, Bias: []int32{2}})
			before := fmt.Sprint(deep(m))
			model.Check(m)
			model.Shapes(m)
			model.Work(m)
			if after := fmt.Sprint(deep(m)); after != before {
				t.Errorf("%s, fault %d: the model was changed", s.name, each.number)
			}
		}
	}
}

// Rule 7: shapes are answered in new memory, spare room too; rule 8: nothing is
// kept from call to call.
func TestShapesAreNew(t *testing.T) {
	for _, s := range sheets() {
		m := s.base()
		first, _ := model.Shapes(m)
		want := slices.Clone(first)
		second, _ := model.Shapes(m)
		for i := range first[:cap(first)] {
			first[:cap(first)][i] = of(-1, -2, -3)
		}
		if !slices.Equal(second, want) {
			t.Errorf("%s: two answers share memory", s.name)
		}
		expect(t, s.name, m, judge(m))
		if &first[:cap(first)][cap(first)-1] == &second[:cap(second)][cap(second)-1] {
			t.Errorf("%s: two answers share their spare room", s.name)
		}
	}
}

// Rule 8: a call behind others with faults answers what it did.
func TestNothingIsKept(t *testing.T) {
	good := denseSheet().base()
	want := judge(good)
	for _, s := range sheets() {
		for _, each := range s.turns {
			m := s.base()
			each.do(&m)
			model.Check(m)
			model.Shapes(m)
			model.Work(m)
			expect(t, "behind "+s.name, good, want)
		}
	}
}

package flow_test

import (
	"math"
	"math/rand"
	"slices"
	"testing"

	"spillway/api"
	"spillway/flow"
	"spillway/model"
)

// far are numbers that name nothing, whatever the model, some of them wide ones
// whose low bits would name something.
func far() []int {
	return []int{-1, -2, math.MinInt, math.MinInt + 1, math.MaxInt, math.MaxInt - 1, 1 << 32, 1<<32 + 1, -1 << 32, -1<<32 + 1, 1<<62 + 1, 1 << 20, math.MaxInt32, math.MinInt32}
}

// rangesOfAllSorts are lists that are too short, long enough and longer, of
// spans of values and of others.
func rangesOfAllSorts() [][]api.Span {
	all := [][]api.Span{nil, {}}
	for _, s := range list(span(0, 10), span(-128, 127), span(5, 4), span(5, 200), span(math.MinInt64, math.MaxInt64)) {
		for _, n := range []int{1, 2, 4, 70} {
			all = append(all, slices.Repeat(list(s), n))
		}
	}
	return all
}

// Rule 4: numbers of ops at each end and beyond it; told ahead of a list that
// is too short and of spans.
func TestOpsThatAreNone(t *testing.T) {
	in := of(4, 3, 2)
	for _, m := range []api.Model{star(in), star(in, oneOfEach()[0]), star(in, oneOfEach()[4]), star(in, oneOfEach()...), everyKind(), chain(in, repeated(clamp())...)} {
		for _, op := range append(far(), 0, len(m.Ops)+1, len(m.Ops)+2) {
			for _, ranges := range rangesOfAllSorts() {
				expectOut(t, "no such op", m, op, ranges, api.Span{}, api.ErrPlace)
			}
		}
		for _, op := range []int{1, len(m.Ops)} {
			for _, ranges := range rangesOfAllSorts() {
				want, e := secondOut(m, op, ranges)
				expectOut(t, "an end", m, op, ranges, want, e)
			}
		}
	}
}

// P14.1: lists that are too short, whatever their spans and the tensors that
// the op reads: their spare room doesn't count. As many as op are enough.
func TestLists(t *testing.T) {
	for _, m := range []api.Model{everyKind(), adding(), skipping(), sides(), chain(of(1, 1, 2), repeated(rescale())...)} {
		room := slices.Repeat(list(span(-5, 6)), len(m.Ops)+9)
		bad := slices.Repeat(list(span(6, -5)), len(m.Ops)+9)
		for op := 1; op <= len(m.Ops); op++ {
			want := secondComes(m, op, room)
			expectOut(t, "nil", m, op, nil, api.Span{}, api.ErrLens)
			expectOut(t, "empty", m, op, room[:0], api.Span{}, api.ErrLens)
			expectOut(t, "one too short", m, op, room[:op-1], api.Span{}, api.ErrLens)
			expectOut(t, "one too short, no spans of values", m, op, bad[:op-1], api.Span{}, api.ErrLens)
			expectOut(t, "as long as op", m, op, room[:op], want, api.OK)
			expectOut(t, "one longer", m, op, room[:op+1], want, api.OK)
			expectOut(t, "much longer", m, op, room, want, api.OK)
			expectOut(t, "as long as op, no spans of values", m, op, bad[:op], api.Span{}, api.ErrSpan)
			expectOut(t, "longer, no spans of values", m, op, bad, api.Span{}, api.ErrSpan)
		}
	}
}

// P14.1: what is no span of values, at a tensor that is read: told; at others:
// not looked at. Of an Add both tensors are read, of every other kind A alone.
func TestSpansThatAreNone(t *testing.T) {
	in := of(4, 3, 2)
	for _, kind := range oneOfEach() {
		for a := range 3 {
			for b := range 3 {
				op := kind
				op.A = a
				if op.Kind == api.Add {
					op.B = b
				}
				m := star(in, clamp(), rescale(), op)
				good := list(span(-5, 6), span(2, 9), span(-8, -3), span(1, 1))
				want := secondComes(m, 3, good)
				for place := range good {
					for _, s := range noSpans() {
						ranges := slices.Clone(good)
						ranges[place] = s
						if place == a || op.Kind == api.Add && place == b {
							expectOut(t, "a tensor that is read", m, 3, ranges, api.Span{}, api.ErrSpan)
						} else {
							expectOut(t, "a tensor that isn't read", m, 3, ranges, want, api.OK)
						}
					}
				}
			}
		}
	}
}

// P14.1: spans of values of each sort, for each kind.
func TestSpansOfValues(t *testing.T) {
	m := star(of(4, 3, 2), oneOfEach()...)
	for op := range m.Ops {
		for _, s := range spans() {
			ranges := slices.Repeat(list(s), op+1)
			expectOut(t, "a span of values", m, op+1, ranges, secondComes(m, op+1, ranges), api.OK)
		}
	}
}

// broken is a model that isn't well-formed: its fault, and what makes it of the
// model of base.
type broken struct {
	name  string
	fault api.Fault
	do    func(m *api.Model)
}

// base has three ops; one of them is made faulty.
func base() api.Model {
	in := of(4, 4, 2)
	return chain(in, conv(in, 2, padded(kernel(3, 3, 1, 1), 1, 1, 1, 1)), conv(in, 2, kernel(1, 1, 1, 1)), conv(in, 2, kernel(1, 1, 1, 1)))
}

func ofModel() []broken {
	fault := func(e api.Errno) api.Fault { return api.Fault{Err: e} }
	return []broken{
		{"no rows", fault(api.ErrShape), func(m *api.Model) { m.In.H = 0 }},
		{"a side too long", fault(api.ErrShape), func(m *api.Model) { m.In.C = api.MaxDim + 1 }},
		{"too many numbers", fault(api.ErrShape), func(m *api.Model) { m.In = of(128, 128, 2) }},
		{"sides as long as can be", fault(api.ErrShape), func(m *api.Model) { m.In = of(math.MaxInt, math.MaxInt, math.MinInt) }},
		{"Lo below", fault(api.ErrRange), func(m *api.Model) { m.Lo = -129 }},
		{"Hi above", fault(api.ErrRange), func(m *api.Model) { m.Hi = 128 }},
		{"Lo above Hi", fault(api.ErrRange), func(m *api.Model) { m.Lo, m.Hi = 1, 0 }},
		{"65 ops", fault(api.ErrMany), func(m *api.Model) { m.Ops = append(m.Ops, make([]api.Op, 62)...) }},
		{"Out below", fault(api.ErrPlace), func(m *api.Model) { m.Out = -1 }},
		{"Out above", fault(api.ErrPlace), func(m *api.Model) { m.Out = 4 }},
		{"an Add of two shapes", api.Fault{Err: api.ErrShape, Op: 2}, func(m *api.Model) { m.Ops[0] = average(kernel(2, 2, 1, 1)); m.Ops[1] = add(0, 1) }},
		{"too much work together", api.Fault{Err: api.ErrWork, Op: 3}, func(m *api.Model) {
			in := of(16, 16, 16)
			m.In = in
			for i := range m.Ops {
				m.Ops[i] = conv(in, 16, kernel(1, 1, 1, 1))
				m.Ops[i].A = i
			}
		}},
	}
}

// ofOp are the faults of one op, whichever of the three it is.
func ofOp(number int) []broken {
	var all []broken
	fault := func(name string, e api.Errno, do func(op *api.Op)) {
		all = append(all, broken{name, api.Fault{Err: e, Op: number}, func(m *api.Model) { do(&m.Ops[number-1]) }})
	}
	fault("Kind 0", api.ErrKind, func(op *api.Op) { op.Kind = 0 })
	fault("Kind 9", api.ErrKind, func(op *api.Op) { op.Kind = 9 })
	fault("its own tensor", api.ErrEdge, func(op *api.Op) { op.A = number })
	fault("a tensor below", api.ErrEdge, func(op *api.Op) { op.A = math.MinInt })
	fault("an Add of its own tensor", api.ErrEdge, func(op *api.Op) { *op = add(0, number) })
	fault("an Add of a tensor below", api.ErrEdge, func(op *api.Op) { *op = add(0, -1) })
	fault("another tensor beside", api.ErrField, func(op *api.Op) { op.B = 1 })
	fault("a scale beside", api.ErrField, func(op *api.Op) { op.SB.Mult = 1 })
	fault("a Max with padding", api.ErrField, func(op *api.Op) { *op = greatest(padded(kernel(2, 2, 1, 1), 1, 0, 0, 0)) })
	fault("a Max with a Zero", api.ErrField, func(op *api.Op) { *op = greatest(kernel(2, 2, 1, 1)); op.Zero = 1 })
	fault("an Average with padding", api.ErrField, func(op *api.Op) { *op = average(padded(kernel(2, 2, 1, 1), 0, 0, 0, 1)) })
	fault("an Average with a Zero", api.ErrField, func(op *api.Op) { *op = average(kernel(2, 2, 1, 1)); op.Zero = -1 })
	fault("an Average with a bias", api.ErrField, func(op *api.Op) { *op = average(kernel(1, 1, 1, 1)); op.Bias = []int32{1, 1} })
	fault("a Clamp with a scale", api.ErrField, func(op *api.Op) { *op = clamp(); op.SA = times(1) })
	fault("a Clamp with a Zero", api.ErrField, func(op *api.Op) { *op = clamp(); op.Zero = 1 })
	fault("a Rescale with another scale", api.ErrField, func(op *api.Op) { *op = rescale(); op.SB = times(1) })
	fault("a Dense with a Pad", api.ErrField, func(op *api.Op) { *op = dense(of(4, 4, 2), 2); op.Pad = 1 })
	fault("M 0", api.ErrArg, func(op *api.Op) { op.M = 0 })
	fault("M as great as can be", api.ErrArg, func(op *api.Op) { op.M = math.MaxInt })
	fault("no window", api.ErrWindow, func(op *api.Op) { op.Win = api.Window{} })
	fault("a window that doesn't fit", api.ErrWindow, func(op *api.Op) { op.Win = kernel(5, 1, 1, 1) })
	fault("a Max whose window doesn't fit", api.ErrWindow, func(op *api.Op) { *op = greatest(kernel(1, 5, 1, 1)) })
	fault("too many numbers", api.ErrShape, func(op *api.Op) { op.M, op.Win = 1024, padded(kernel(3, 3, 1, 1), 2, 2, 2, 2) })
	fault("too long", api.ErrReduce, func(op *api.Op) { op.Win = padded(kernel(32, 32, 1, 1), 31, 31, 31, 31) })
	fault("a weight too few", api.ErrLens, func(op *api.Op) { op.Weights = op.Weights[1:] })
	fault("no weights", api.ErrLens, func(op *api.Op) { op.Weights = nil })
	fault("a bias too many", api.ErrLens, func(op *api.Op) { op.Bias = append(op.Bias, 1) })
	fault("no biases", api.ErrLens, func(op *api.Op) { op.Bias = nil })
	fault("no scale", api.ErrScale, func(op *api.Op) { op.SA = api.Scale{} })
	fault("a shift too far", api.ErrScale, func(op *api.Op) { op.SA.Shift = api.MaxShift + 1 })
	fault("a Rescale without a scale", api.ErrScale, func(op *api.Op) { *op = rescale(); op.SA.Mult = 0 })
	fault("an Add whose second scale is none", api.ErrScale, func(op *api.Op) { *op = add(0, 0); op.SB.Shift = -1 })
	fault("Zero above", api.ErrRange, func(op *api.Op) { op.Zero = 128 })
	fault("Pad below", api.ErrRange, func(op *api.Op) { op.Pad = -129 })
	fault("Lo above Hi", api.ErrRange, func(op *api.Op) { op.Lo, op.Hi = 1, 0 })
	fault("a Clamp's Hi above", api.ErrRange, func(op *api.Op) { *op = within(clamp(), 0, 128) })
	// 11 times 35 positions, 2 channels, sums of 512 terms.
	fault("too much work", api.ErrWork, func(op *api.Op) { *op = conv(of(4, 4, 2), 2, padded(kernel(8, 32, 1, 1), 7, 31, 7, 31)) })
	return all
}

// Rule 3: a model that isn't well-formed is told first, whatever the number and
// the ranges beside it: those of ops that have no fault, too. Spread tells the
// op.
func TestFaultOfModelComesFirst(t *testing.T) {
	all := ofModel()
	for number := 1; number <= 3; number++ {
		all = append(all, ofOp(number)...)
	}
	told := map[api.Errno]bool{}
	for _, b := range all {
		m := base()
		b.do(&m)
		if f := model.Check(m); f != b.fault {
			t.Fatalf("%s: the model's fault is %v; want %v", b.name, f, b.fault)
		}
		told[b.fault.Err] = true
		expectSpread(t, b.name, m, nil, b.fault)
		for _, op := range append(far(), 0, 1, 2, 3, 4, 65) {
			for _, ranges := range rangesOfAllSorts() {
				expectOut(t, b.name, m, op, ranges, api.Span{}, b.fault.Err)
			}
		}
	}
	if len(told) != 13 {
		t.Errorf("%d errors of chapter 8 told; want 13", len(told))
	}
}

// P1: models of nothing, and of numbers as great as an int goes.
func TestModelsOfNothing(t *testing.T) {
	for _, m := range []api.Model{{}, {Ops: []api.Op{{}}}, {Ops: make([]api.Op, 1000)}, {In: of(math.MaxInt, math.MaxInt, math.MaxInt), Lo: math.MinInt, Hi: math.MaxInt, Out: math.MaxInt}} {
		expectSpread(t, "nothing", m, nil, api.Fault{Err: api.ErrShape})
		for _, op := range append(far(), 0, 1) {
			for _, ranges := range rangesOfAllSorts() {
				expectOut(t, "nothing", m, op, ranges, api.Span{}, api.ErrShape)
			}
		}
	}
}

// P1: whatever a model's numbers are, calls end and don't panic, and what they
// answer is what the second reading answers.
func TestDisturbedModels(t *testing.T) {
	r := rand.New(rand.NewSource(1410))
	over := append(spans(), noSpans()...)
	for range 20000 {
		m := anyModel(r, 4)
		for range 1 + r.Intn(2) {
			disturb(r, &m)
		}
		ranges := anySpans(r, r.Intn(6))
		for i := range ranges {
			ranges[i] = anyOf(r, ranges[i], ranges[i], anyOf(r, over...))
		}
		op := r.Intn(7) - 1
		want, e := secondOut(m, op, ranges)
		expectOut(t, "disturbed", m, op, ranges, want, e)
		all, f := secondSpread(m)
		expectSpread(t, "disturbed", m, all, f)
		if t.Failed() {
			t.Fatalf("%+v", m)
		}
	}
}

// disturb sets one number of the model, or the length of one of its lists.
func disturb(r *rand.Rand, m *api.Model) {
	to := anyOf(r, 0, 1, 2, 3, -1, 4, 128, -129, 127, -128, 1024, 1025, math.MaxInt, math.MinInt, 1<<32)
	places := []*int{&m.In.H, &m.In.W, &m.In.C, &m.Lo, &m.Hi, &m.Out}
	if len(m.Ops) > 0 {
		op := &m.Ops[r.Intn(len(m.Ops))]
		w := &op.Win
		places = append(places, &op.Kind, &op.A, &op.B, &op.M, &w.KH, &w.KW, &w.SH, &w.SW, &w.Top, &w.Left, &w.Bottom, &w.Right,
			&op.SA.Mult, &op.SA.Shift, &op.SB.Mult, &op.SB.Shift, &op.Zero, &op.Pad, &op.Lo, &op.Hi)
		switch r.Intn(8) {
		case 0:
			op.Weights = op.Weights[:r.Intn(len(op.Weights)+1)]
			return
		case 1:
			op.Bias = append(op.Bias, int32(to))
			return
		}
	}
	*places[r.Intn(len(places))] = to
}

// Rule 2: beside an error or a fault nothing else is answered.
func TestNothingBesideAnError(t *testing.T) {
	m := denseExample()
	if s, e := flow.Out(m, 1, list(span(0, 200))); s != (api.Span{}) || e != api.ErrSpan {
		t.Errorf("%v %d", s, int(e))
	}
	m.Ops = append(m.Ops, api.Op{})
	if s, f := flow.Spread(m); len(s) != 0 || f != (api.Fault{Err: api.ErrKind, Op: 2}) {
		t.Errorf("%v %v", s, f)
	}
}

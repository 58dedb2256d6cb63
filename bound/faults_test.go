package bound_test

import (
	"math"
	"math/rand"
	"testing"

	"spillway/api"
	"spillway/model"
)

// far are numbers that name nothing, whatever the op, some of them wide ones
// whose low bits would name something.
func far() []int {
	return []int{-1, -2, math.MinInt, math.MinInt + 1, math.MaxInt, math.MaxInt - 1, 1 << 32, 1<<32 + 1, -1 << 32, -1<<32 + 1, 1<<62 + 1, 1 << 20, math.MaxInt32, math.MinInt32}
}

// rightAndWrong are spans of values and others.
func rightAndWrong() []api.Span {
	return []api.Span{span(0, 10), span(-128, 127), span(5, 4), span(5, 200), span(math.MinInt64, math.MaxInt64)}
}

// Rule 4: numbers of ops at each end and beyond it.
func TestOpsThatAreNone(t *testing.T) {
	in := of(4, 3, 2)
	for _, m := range []api.Model{star(in), star(in, oneOfEach()[0]), star(in, oneOfEach()[4]), star(in, oneOfEach()...), everyKind()} {
		for _, op := range append(far(), 0, len(m.Ops)+1) {
			for _, ch := range append(far(), 0, 1, 2) {
				for _, s := range rightAndWrong() {
					expectError(t, "no such op", m, op, ch, s, api.ErrPlace)
				}
			}
		}
	}
}

// Rule 4: an op that doesn't reduce is told ahead of a channel that it hasn't
// and of a span.
func TestOpsThatDoNotReduce(t *testing.T) {
	in := of(4, 3, 2)
	others := oneOfEach()[4:]
	m := star(in, append(others, oneOfEach()...)...)
	for op := range m.Ops {
		if model.Reduces(m.Ops[op].Kind) {
			continue
		}
		for _, ch := range append(far(), 0, 1, 2, 3) {
			for _, s := range rightAndWrong() {
				expectError(t, "doesn't reduce", m, op+1, ch, s, api.ErrKind)
			}
		}
	}
}

// Rule 4: numbers of channels at each end and beyond it, told ahead of a span;
// the channels of the tensor that the op makes count.
func TestChannelsThatAreNone(t *testing.T) {
	for _, m := range []api.Model{star(of(4, 3, 2), oneOfEach()[:4]...), skipping(), endsOfNumbers()} {
		for op := 1; op <= len(m.Ops); op++ {
			last := channelsOf(m, op)
			for _, ch := range append(far(), 0, last+1, last+2) {
				for _, s := range rightAndWrong() {
					expectError(t, "no such channel", m, op, ch, s, api.ErrPlace)
				}
			}
			for _, s := range rightAndWrong() {
				holdChannel(t, "the first channel", m, op, 1, s)
				holdChannel(t, "the last channel", m, op, last, s)
			}
		}
	}
}

// Rule 5: what is no span of values, of each kind that reduces, with padding
// and without; it is told ahead of a depth.
func TestSpansThatAreNone(t *testing.T) {
	in := of(4, 3, 2)
	ops := append(oneOfEach()[:4], conv(in, 1, kernel(1, 1, 1, 1)), depthwise(in, kernel(1, 1, 1, 1)))
	m := star(in, ops...)
	for op := 1; op <= len(m.Ops); op++ {
		for ch := 1; ch <= channelsOf(m, op); ch++ {
			for _, s := range noSpans() {
				expectError(t, "no span of values", m, op, ch, s, api.ErrSpan)
			}
			for _, s := range spans() {
				holdChannel(t, "a span of values", m, op, ch, s)
			}
		}
	}
}

// P13.3: depths at each end and beyond it, of ops of each kind that reduces:
// the op's length counts, whatever the lengths of others.
func TestDepthsThatAreNone(t *testing.T) {
	in := of(4, 3, 2)
	m := star(in, append(oneOfEach()[:4], conv(in, 1, kernel(1, 1, 1, 1)), depthwise(in, kernel(1, 1, 1, 1)), average(kernel(1, 1, 1, 1)))...)
	for _, m := range []api.Model{m, everyKind(), skipping(), farthest()} {
		for op := 1; op <= len(m.Ops); op++ {
			if !model.Reduces(m.Ops[op-1].Kind) {
				continue
			}
			length := lengthOf(m, op)
			for _, depth := range noDepths(length) {
				expectPart(t, "no depth", m, op, 1, span(-5, 6), depth, api.Span{}, api.ErrDepth)
			}
			want := second(m, op, 1, span(-5, 6), []int{1, length})
			expectPart(t, "the least depth", m, op, 1, span(-5, 6), 1, want.parts[1], api.OK)
			expectPart(t, "the greatest depth", m, op, 1, span(-5, 6), length, want.parts[length], api.OK)
		}
	}
}

// broken is a model that isn't well-formed: its fault, and what makes it of the
// model of base.
type broken struct {
	name  string
	fault api.Fault
	do    func(m *api.Model)
}

// base has three ops; one of them is made faulty.
func base() api.Model {
	in := of(4, 4, 2)
	return chain(in, conv(in, 2, padded(kernel(3, 3, 1, 1), 1, 1, 1, 1)), conv(in, 2, kernel(1, 1, 1, 1)), conv(in, 2, kernel(1, 1, 1, 1)))
}

func ofModel() []broken {
	fault := func(e api.Errno) api.Fault { return api.Fault{Err: e} }
	return []broken{
		{"no rows", fault(api.ErrShape), func(m *api.Model) { m.In.H = 0 }},
		{"a side too long", fault(api.ErrShape), func(m *api.Model) { m.In.C = api.MaxDim + 1 }},
		{"too many numbers", fault(api.ErrShape), func(m *api.Model) { m.In = of(128, 128, 2) }},
		{"sides as long as can be", fault(api.ErrShape), func(m *api.Model) { m.In = of(math.MaxInt, math.MaxInt, math.MinInt) }},
		{"Lo below", fault(api.ErrRange), func(m *api.Model) { m.Lo = -129 }},
		{"Hi above", fault(api.ErrRange), func(m *api.Model) { m.Hi = 128 }},
		{"Lo above Hi", fault(api.ErrRange), func(m *api.Model) { m.Lo, m.Hi = 1, 0 }},
		{"65 ops", fault(api.ErrMany), func(m *api.Model) { m.Ops = append(m.Ops, make([]api.Op, 62)...) }},
		{"Out below", fault(api.ErrPlace), func(m *api.Model) { m.Out = -1 }},
		{"Out above", fault(api.ErrPlace), func(m *api.Model) { m.Out = 4 }},
		{"an Add of two shapes", api.Fault{Err: api.ErrShape, Op: 2}, func(m *api.Model) { m.Ops[0] = average(kernel(2, 2, 1, 1)); m.Ops[1] = add(0, 1) }},
		{"too much work together", api.Fault{Err: api.ErrWork, Op: 3}, func(m *api.Model) {
			in := of(16, 16, 16)
			m.In = in
			for i := range m.Ops {
				m.Ops[i] = conv(in, 16, kernel(1, 1, 1, 1))
				m.Ops[i].A = i
			}
		}},
	}
}

// ofOp are the faults of one op, whichever of the three it is.
func ofOp(number int) []broken {
	var all []broken
	fault := func(name string, e api.Errno, do func(op *api.Op)) {
		all = append(all, broken{name, api.Fault{Err: e, Op: number}, func(m *api.Model) { do(&m.Ops[number-1]) }})
	}
	fault("Kind 0", api.ErrKind, func(op *api.Op) { op.Kind = 0 })
	fault("Kind 9", api.ErrKind, func(op *api.Op) { op.Kind = 9 })
	fault("its own tensor", api.ErrEdge, func(op *api.Op) { op.A = number })
	fault("a tensor below", api.ErrEdge, func(op *api.Op) { op.A = math.MinInt })
	fault("an Add of its own tensor", api.ErrEdge, func(op *api.Op) { *op = add(0, number) })
	fault("another tensor beside", api.ErrField, func(op *api.Op) { op.B = 1 })
	fault("a scale beside", api.ErrField, func(op *api.Op) { op.SB.Mult = 1 })
	fault("a Max with padding", api.ErrField, func(op *api.Op) { *op = greatest(padded(kernel(2, 2, 1, 1), 1, 0, 0, 0)) })
	fault("an Average with padding", api.ErrField, func(op *api.Op) { *op = average(padded(kernel(2, 2, 1, 1), 0, 0, 0, 1)) })
	fault("an Average with a Pad", api.ErrField, func(op *api.Op) { *op = average(kernel(2, 2, 1, 1)); op.Pad = 1 })
	fault("an Average with weights", api.ErrField, func(op *api.Op) { *op = average(kernel(1, 1, 1, 1)); op.Weights = []int16{1} })
	fault("an Average with a bias", api.ErrField, func(op *api.Op) { *op = average(kernel(1, 1, 1, 1)); op.Bias = []int32{1, 1} })
	fault("a Dense with a Pad", api.ErrField, func(op *api.Op) { *op = dense(of(4, 4, 2), 2); op.Pad = 1 })
	fault("a Dense with padding", api.ErrField, func(op *api.Op) { *op = dense(of(4, 4, 2), 2); op.Win.Top = 1 })
	fault("M 0", api.ErrArg, func(op *api.Op) { op.M = 0 })
	fault("M as great as can be", api.ErrArg, func(op *api.Op) { op.M = math.MaxInt })
	fault("no window", api.ErrWindow, func(op *api.Op) { op.Win = api.Window{} })
	fault("a window that doesn't fit", api.ErrWindow, func(op *api.Op) { op.Win = kernel(5, 1, 1, 1) })
	fault("too many numbers", api.ErrShape, func(op *api.Op) { op.M, op.Win = 1024, padded(kernel(3, 3, 1, 1), 2, 2, 2, 2) })
	fault("too long", api.ErrReduce, func(op *api.Op) { op.Win = padded(kernel(32, 32, 1, 1), 31, 31, 31, 31) })
	fault("a weight too few", api.ErrLens, func(op *api.Op) { op.Weights = op.Weights[1:] })
	fault("no weights", api.ErrLens, func(op *api.Op) { op.Weights = nil })
	fault("a bias too many", api.ErrLens, func(op *api.Op) { op.Bias = append(op.Bias, 1) })
	fault("no biases", api.ErrLens, func(op *api.Op) { op.Bias = nil })
	fault("no scale", api.ErrScale, func(op *api.Op) { op.SA = api.Scale{} })
	fault("a shift too far", api.ErrScale, func(op *api.Op) { op.SA.Shift = api.MaxShift + 1 })
	fault("Zero above", api.ErrRange, func(op *api.Op) { op.Zero = 128 })
	fault("Pad below", api.ErrRange, func(op *api.Op) { op.Pad = -129 })
	fault("Lo above Hi", api.ErrRange, func(op *api.Op) { op.Lo, op.Hi = 1, 0 })
	// 11 times 35 positions, 2 channels, sums of 512 terms.
	fault("too much work", api.ErrWork, func(op *api.Op) { *op = conv(of(4, 4, 2), 2, padded(kernel(8, 32, 1, 1), 7, 31, 7, 31)) })
	return all
}

// Rule 3: a model that isn't well-formed is told first, whatever the numbers
// and the span beside it: those of ops that have no fault, too.
func TestFaultOfModelComesFirst(t *testing.T) {
	all := ofModel()
	for number := 1; number <= 3; number++ {
		all = append(all, ofOp(number)...)
	}
	told := map[api.Errno]bool{}
	for _, b := range all {
		m := base()
		b.do(&m)
		if f := model.Check(m); f != b.fault {
			t.Fatalf("%s: the model's fault is %v; want %v", b.name, f, b.fault)
		}
		told[b.fault.Err] = true
		for _, op := range append(far(), 0, 1, 2, 3, 4, 65) {
			for _, ch := range []int{math.MinInt, -1, 0, 1, 2, 3, math.MaxInt} {
				for _, s := range rightAndWrong() {
					expectError(t, b.name, m, op, ch, s, b.fault.Err)
				}
			}
		}
	}
	if len(told) != 13 {
		t.Errorf("%d errors of chapter 8 told; want 13", len(told))
	}
}

// P1: models of nothing, and of numbers as great as an int goes.
func TestModelsOfNothing(t *testing.T) {
	for _, m := range []api.Model{{}, {Ops: []api.Op{{}}}, {Ops: make([]api.Op, 1000)}, {In: of(math.MaxInt, math.MaxInt, math.MaxInt), Lo: math.MinInt, Hi: math.MaxInt, Out: math.MaxInt}} {
		for _, op := range append(far(), 0, 1) {
			for _, ch := range append(far(), 0, 1) {
				expectError(t, "nothing", m, op, ch, span(0, 1), api.ErrShape)
			}
		}
	}
}

// P1: whatever a model's numbers are, calls end and don't panic, and what they
// answer is what the second reading answers.
func TestDisturbedModels(t *testing.T) {
	r := rand.New(rand.NewSource(121))
	over := append(spans(), noSpans()...)
	for range 10000 {
		m := anyModel(r, 4)
		for range 1 + r.Intn(2) {
			disturb(r, &m)
		}
		holdChannel(t, "disturbed", m, r.Intn(6)-1, r.Intn(5)-1, anyOf(r, anySpan(r), anyOf(r, over...)))
		if t.Failed() {
			t.Fatalf("%+v", m)
		}
	}
}

// disturb sets one number of the model, or the length of one of its lists.
func disturb(r *rand.Rand, m *api.Model) {
	to := anyOf(r, 0, 1, 2, 3, -1, 4, 128, -129, 127, -128, 1024, 1025, math.MaxInt, math.MinInt, 1<<32)
	places := []*int{&m.In.H, &m.In.W, &m.In.C, &m.Lo, &m.Hi, &m.Out}
	if len(m.Ops) > 0 {
		op := &m.Ops[r.Intn(len(m.Ops))]
		w := &op.Win
		places = append(places, &op.Kind, &op.A, &op.B, &op.M, &w.KH, &w.KW, &w.SH, &w.SW, &w.Top, &w.Left, &w.Bottom, &w.Right,
			&op.SA.Mult, &op.SA.Shift, &op.SB.Mult, &op.SB.Shift, &op.Zero, &op.Pad, &op.Lo, &op.Hi)
		switch r.Intn(8) {
		case 0:
			op.Weights = op.Weights[:r.Intn(len(op.Weights)+1)]
			return
		case 1:
			op.Bias = append(op.Bias, int32(to))
			return
		}
	}
	*places[r.Intn(len(places))] = to
}

package depth_test

import (
	"math"
	"slices"
	"testing"

	"spillway/api"
	"spillway/model"
)

// rightAndWrong are spans of values and others.
func rightAndWrong() []api.Span {
	return list(span(0, 10), span(-128, 127), span(5, 4), span(5, 200), span(math.MinInt64, math.MaxInt64))
}

// Rule 3: a model that isn't well-formed is told first, whatever is handed in
// beside it.
func TestFaultOfModelComesFirst(t *testing.T) {
	told := map[api.Errno]bool{}
	for _, b := range brokenModels() {
		m := b.model()
		if f := model.Check(m); f != b.fault {
			t.Fatalf("%s: the model's fault is %v; want %v", b.name, f, b.fault)
		}
		told[b.fault.Err] = true
		for _, op := range append(farNumbers(), 0, 1, 2, 3, 4) {
			for _, ch := range []int{math.MinInt, -1, 0, 1, 2, 3, math.MaxInt} {
				expectError(t, b.name, m, op, ch, span(0, 10), b.fault.Err)
				expectError(t, b.name, m, op, ch, span(5, 200), b.fault.Err)
			}
		}
	}
	if len(told) != 13 {
		t.Errorf("%d errors of chapter 8 told; want 13", len(told))
	}
}

// Rule 3: that the fault is told where the op at hand has none, too, is so for
// ops ahead of the fault and behind it, and for Choose where Run is too wide.
func TestFaultOfAnotherOp(t *testing.T) {
	wide := row(0, slices.Repeat([]int16{math.MinInt16}, 512)...)
	wide.Ops = append(wide.Ops, clamp(), wide.Ops[0])
	expectChoose(t, "no fault", wide, 1, 1, span(-128, 127), api.Chan{}, api.ErrWide)
	expectChoose(t, "no fault", wide, 3, 1, span(-128, 127), api.Chan{}, api.ErrWide)
	wide.Ops[1].Lo, wide.Ops[1].Hi = 3, 2
	expectError(t, "a fault between", wide, 1, 1, span(-128, 127), api.ErrRange)
	expectError(t, "a fault between", wide, 3, 1, span(-128, 127), api.ErrRange)
	expectError(t, "a fault between", wide, 2, 1, span(-128, 127), api.ErrRange)
}

// P1: models of nothing, and of numbers as great as an int goes.
func TestModelsOfNothing(t *testing.T) {
	for _, m := range []api.Model{{}, {Ops: []api.Op{{}}}, {Ops: make([]api.Op, 1000)}, {In: of(math.MaxInt, math.MaxInt, math.MaxInt), Lo: math.MinInt, Hi: math.MaxInt, Out: math.MaxInt}} {
		for _, number := range append(farNumbers(), 0, 1) {
			expectError(t, "nothing", m, number, 1, span(0, 1), api.ErrShape)
			expectError(t, "nothing", m, 1, number, span(0, 1), api.ErrShape)
		}
	}
}

// Rule 4: numbers of ops at each end and beyond it, told ahead of channels,
// spans and depths.
func TestOpsThatAreNone(t *testing.T) {
	in := of(4, 3, 2)
	for _, m := range []api.Model{star(in), star(in, oneOfEach()[0]), star(in, oneOfEach()[4]), star(in, oneOfEach()...), everyKind()} {
		for _, op := range append(farNumbers(), 0, len(m.Ops)+1, len(m.Ops)+2) {
			for _, ch := range append(farNumbers(), 0, 1, 2) {
				for _, s := range rightAndWrong() {
					expectError(t, "no such op", m, op, ch, s, api.ErrPlace)
				}
			}
		}
	}
}

// Rule 4: an op that doesn't reduce is told ahead of a channel that it hasn't,
// of a span and of a depth.
func TestOpsThatDoNotReduce(t *testing.T) {
	m := star(of(4, 3, 2), append(oneOfEach()[4:], oneOfEach()...)...)
	for op := 1; op <= len(m.Ops); op++ {
		if slices.Contains(reducing(m), op) {
			continue
		}
		for _, ch := range append(farNumbers(), 0, 1, 2, 3) {
			for _, s := range rightAndWrong() {
				expectError(t, "doesn't reduce", m, op, ch, s, api.ErrKind)
			}
		}
	}
}

// Rule 4: numbers of channels at each end and beyond it, told ahead of a span
// and of a depth; the channels of the tensor that the op makes count.
func TestChannelsThatAreNone(t *testing.T) {
	for _, m := range []api.Model{star(of(4, 3, 2), oneOfEach()...), skipping(), mixedWidths(), everyKind()} {
		for _, op := range reducing(m) {
			last := secondChannels(m, op)
			for _, ch := range append(farNumbers(), 0, last+1, last+2) {
				for _, s := range rightAndWrong() {
					expectError(t, "no such channel", m, op, ch, s, api.ErrPlace)
				}
			}
			for _, ch := range []int{1, last} {
				holdChannel(t, "a channel", m, op, ch, span(-5, 6))
			}
		}
	}
}

// Rule 5: what is no span of values, of each kind that reduces, with padding
// and without; it is told ahead of a depth, and of a Run that is too wide.
func TestSpansThatAreNone(t *testing.T) {
	in := of(4, 3, 2)
	m := star(in, append(oneOfEach()[:4], conv(in, 1, kernel(1, 1, 1, 1)), depthwise(in, kernel(1, 1, 1, 1)))...)
	m.Ops[0].Bias[0] = math.MaxInt32
	for _, at := range places(m) {
		for _, s := range noneOfValues() {
			expectError(t, "no span of values", m, at.op, at.ch, s, api.ErrSpan)
		}
		for _, s := range spansOfValues() {
			holdChannel(t, "a span of values", m, at.op, at.ch, s)
		}
	}
}

// P18.1: ErrDepth comes where a depth is none, and beside it false, also where
// no depth is safe or Run is too wide.
func TestDepthsBesideWide(t *testing.T) {
	for _, m := range []api.Model{row(math.MaxInt32, 1, 2), row(0, 300, 300), row(math.MinInt32, -32768, -32768), row(0, 1, 1)} {
		for _, k := range depthsThatAreNone(2) {
			expectSafe(t, "no depth", m, 1, 1, span(-128, 127), k, false, api.ErrDepth)
		}
	}
}

package witness_test

import (
	"math"
	"slices"
	"testing"

	"spillway/api"
	"spillway/model"
)

// rightAndWrong are spans of values and others.
func rightAndWrong() []api.Span {
	return list(span(0, 10), span(-128, 127), span(5, 4), span(5, 200), span(math.MinInt64, math.MaxInt64))
}

// Rule 3: a model that isn't well-formed is told first, whatever is handed in
// beside it.
func TestFaultOfModelComesFirst(t *testing.T) {
	told := map[api.Errno]bool{}
	for _, b := range brokenModels() {
		m := b.model()
		if f := model.Check(m); f != b.fault {
			t.Fatalf("%s: the model's fault is %v; want %v", b.name, f, b.fault)
		}
		told[b.fault.Err] = true
		for _, op := range append(farNumbers(), 0, 1, 2, 3, 4) {
			for _, ch := range []int{math.MinInt, -1, 0, 1, 2, 3, math.MaxInt} {
				expectError(t, b.name, m, op, ch, span(0, 10), b.fault.Err)
				expectError(t, b.name, m, op, ch, span(5, 200), b.fault.Err)
			}
		}
	}
	if len(told) != 13 {
		t.Errorf("%d errors of chapter 8 told; want 13", len(told))
	}
}

// Rule 3: the fault is told also where the op at hand has none, ahead of the
// fault and behind it, and where there are leaks.
func TestFaultOfAnotherOp(t *testing.T) {
	m := row(0, slices.Repeat([]int16{math.MinInt16}, 512)...)
	m.Ops = append(m.Ops, clamp(), m.Ops[0])
	holdChannel(t, "no fault", m, 1, 1, span(-128, 127), 1, 512)
	holdChannel(t, "no fault", m, 3, 1, span(-128, 127), 1, 512)
	m.Ops[1].Lo, m.Ops[1].Hi = 3, 2
	for op := 1; op <= 3; op++ {
		expectError(t, "a fault between", m, op, 1, span(-128, 127), api.ErrRange)
	}
}

// P1: models of nothing, and of numbers as great as an int goes.
func TestModelsOfNothing(t *testing.T) {
	for _, m := range []api.Model{{}, {Ops: []api.Op{{}}}, {Ops: make([]api.Op, 1000)}, {In: of(math.MaxInt, math.MaxInt, math.MaxInt), Lo: math.MinInt, Hi: math.MaxInt, Out: math.MaxInt}} {
		for _, number := range append(farNumbers(), 0, 1) {
			expectError(t, "nothing", m, number, 1, span(0, 1), api.ErrShape)
			expectError(t, "nothing", m, 1, number, span(0, 1), api.ErrShape)
		}
	}
}

// Rule 4: numbers of ops at each end and beyond it, told ahead of channels,
// spans and depths.
func TestOpsThatAreNone(t *testing.T) {
	in := of(4, 3, 2)
	for _, m := range []api.Model{star(in), star(in, oneOfEach()[0]), star(in, oneOfEach()[4]), star(in, oneOfEach()...), everyKind()} {
		for _, op := range append(farNumbers(), 0, len(m.Ops)+1, len(m.Ops)+2) {
			for _, ch := range append(farNumbers(), 0, 1, 2) {
				for _, s := range rightAndWrong() {
					expectError(t, "no such op", m, op, ch, s, api.ErrPlace)
				}
			}
		}
	}
}

// Rule 4: an op that doesn't reduce is told ahead of a channel that it hasn't,
// of a span and of a depth.
func TestOpsThatDoNotReduce(t *testing.T) {
	m := star(of(4, 3, 2), append(oneOfEach()[4:], oneOfEach()...)...)
	for op := 1; op <= len(m.Ops); op++ {
		if slices.Contains(reducing(m), op) {
			continue
		}
		for _, ch := range append(farNumbers(), 0, 1, 2, 3) {
			for _, s := range rightAndWrong() {
				expectError(t, "doesn't reduce", m, op, ch, s, api.ErrKind)
			}
		}
	}
}

// Rule 4: numbers of channels at each end and beyond it, told ahead of a span
// and of a depth; the channels of the tensor that the op makes count.
func TestChannelsThatAreNone(t *testing.T) {
	for _, m := range []api.Model{star(of(4, 3, 2), oneOfEach()...), skipping(), mixedWidths(), everyKind()} {
		for _, op := range reducing(m) {
			last := secondChannels(m, op)
			for _, ch := range append(farNumbers(), 0, last+1, last+2) {
				for _, s := range rightAndWrong() {
					expectError(t, "no such channel", m, op, ch, s, api.ErrPlace)
				}
			}
			for _, ch := range []int{1, last} {
				holdChannel(t, "a channel", m, op, ch, span(-5, 6))
			}
		}
	}
}

// Rule 5: what is no span of values, of each kind that reduces, with padding
// and without; it is told ahead of a depth.
func TestSpansThatAreNone(t *testing.T) {
	in := of(4, 3, 2)
	m := star(in, append(oneOfEach()[:4], conv(in, 1, kernel(1, 1, 1, 1)), depthwise(in, kernel(1, 1, 1, 1)))...)
	for _, at := range places(m) {
		for _, s := range noneOfValues() {
			expectError(t, "no span of values", m, at.op, at.ch, s, api.ErrSpan)
		}
		for _, s := range spansOfValues() {
			holdChannel(t, "a span of values", m, at.op, at.ch, s)
		}
	}
}

// P23.2: depths at each end and beyond it, of ops of each length; a depth of
// another op's length is none.
func TestDepthsThatAreNone(t *testing.T) {
	for _, n := range append(smallModels(), named{"steep", steeper(star(of(4, 3, 2), oneOfEach()...), 40)}) {
		for _, at := range some(places(n.m), 6) {
			r := read(n.m, at.op, at.ch, span(-5, 6))
			for _, k := range depthsThatAreNone(r.length) {
				r.holdBreak(t, n.name, n.m, at.op, at.ch, k)
			}
			for _, k := range []int{1, r.length} {
				r.holdBreak(t, n.name, n.m, at.op, at.ch, k)
			}
		}
	}
}

// P23.2: ErrDepth comes where a depth is none, also where each depth breaks a
// register, or none does; a span that is none comes ahead of it.
func TestDepthsBesideLeaks(t *testing.T) {
	for _, m := range []api.Model{row(0, 300, 300), row(math.MinInt32, -32768, -32768), row(0, 1, 1), row(0, 0, 0)} {
		for _, k := range depthsThatAreNone(2) {
			expectNoLeak(t, "no depth", m, 1, 1, span(-128, 127), k, api.ErrDepth)
			expectNoLeak(t, "no depth, no span", m, 1, 1, span(-128, 128), k, api.ErrSpan)
			expectNoLeak(t, "no depth, no channel", m, 1, 2, span(-128, 127), k, api.ErrPlace)
		}
	}
}

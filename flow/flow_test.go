package flow_test

import (
	"math"
	"math/rand"
	"slices"
	"testing"

	"spillway/api"
	"spillway/bound"
	"spillway/flow"
)

func list(spans ...api.Span) []api.Span { return spans }

func expectOut(t *testing.T, name string, m api.Model, op int, ranges []api.Span, want api.Span, e api.Errno) {
	t.Helper()
	if got, err := flow.Out(m, op, ranges); got != want || err != e {
		t.Errorf("%s: Out(%d, %v): %v %d; want %v %d", name, op, ranges, got, int(err), want, int(e))
	}
}

func expectSpread(t *testing.T, name string, m api.Model, want []api.Span, f api.Fault) {
	t.Helper()
	if got, fault := flow.Spread(m); !slices.Equal(got, want) || fault != f {
		t.Errorf("%s: Spread: %v %v; want %v %v", name, got, fault, want, f)
	}
}

// P14.1, P14.2: the chapter's examples.
func TestExamples(t *testing.T) {
	m := denseExample()
	expectOut(t, "1", m, 1, list(span(0, 10)), span(-19, 31), api.OK)
	expectOut(t, "1", m, 1, list(span(-128, 127)), span(-128, 127), api.OK)
	expectOut(t, "1", m, 1, list(), api.Span{}, api.ErrLens)
	expectOut(t, "1", m, 1, list(span(0, 200)), api.Span{}, api.ErrSpan)
	for _, ranges := range [][]api.Span{nil, list(span(0, 10)), list(span(0, 10), span(0, 10)), list(span(0, 200))} {
		expectOut(t, "1", m, 2, ranges, api.Span{}, api.ErrPlace)
	}
	expectSpread(t, "2", declaring(0, 10, m), list(span(0, 10), span(-19, 31)), api.Fault{})
	in := of(1, 1, 1)
	expectSpread(t, "3", declaring(-3, 5, star(in, exact(add(0, 0)))), list(span(-3, 5), span(-6, 10)), api.Fault{})
	expectSpread(t, "3", declaring(-3, 5, star(in, within(clamp(), 0, 7))), list(span(-3, 5), span(0, 5)), api.Fault{})
}

// byHand is one op that reads the input, over a span, and what comes of it.
type byHand struct {
	in         api.Shape
	op         api.Op
	over, want api.Span
}

// expectByHand holds Out and Spread to it, the op being the first one, behind
// others that it doesn't read, and behind one that it reads.
func expectByHand(t *testing.T, name string, c byHand) {
	t.Helper()
	expectOut(t, name+", first", star(c.in, c.op), 1, list(c.over), c.want, api.OK)
	expectSpread(t, name+", first", declaring(int(c.over.Lo), int(c.over.Hi), star(c.in, c.op)), list(c.over, c.want), api.Fault{})
	others := star(c.in, average(kernel(1, 1, 2, 2)), within(clamp(), 3, 3), c.op)
	expectOut(t, name+", behind others", others, 3, list(c.over, span(9, 8), span(300, 301)), c.want, api.OK)
	behind := c.op
	behind.A = 1
	if behind.Kind == api.Add {
		behind.B = 1
	}
	after := star(c.in, within(clamp(), int(c.over.Lo), int(c.over.Hi)), behind)
	expectOut(t, name+", behind", after, 2, list(span(1, 0), c.over), c.want, api.OK)
	expectSpread(t, name+", behind", after, list(span(-128, 127), c.over, c.want), api.Fault{})
}

// scaledBy is the op with that scale, that Zero and that range.
func scaledBy(op api.Op, mult, shift, zero, lo, hi int) api.Op {
	op.SA, op.Zero, op.Lo, op.Hi = api.Scale{Mult: mult, Shift: shift}, zero, lo, hi
	return op
}

// P14.1: a Rescale: halves go away from zero on either side, Zero moves, and
// the range cuts one end, both or none.
func TestRescale(t *testing.T) {
	for _, c := range []struct {
		mult, shift, zero, lo, hi int
		over, want                api.Span
	}{
		{1, 0, 0, -128, 127, span(-128, 127), span(-128, 127)},
		{1, 1, 0, -128, 127, span(-5, 5), span(-3, 3)},
		{1, 1, 0, -128, 127, span(-1, 1), span(-1, 1)},
		{1, 1, 0, -128, 127, span(1, 1), span(1, 1)},
		{1, 1, 0, -128, 127, span(-1, -1), span(-1, -1)},
		{1, 1, 0, -128, 127, span(3, 5), span(2, 3)},
		{1, 1, 0, -128, 127, span(-5, -3), span(-3, -2)},
		{1, 1, 1, -128, 127, span(-5, 5), span(-2, 4)},
		{1, 2, 0, -128, 127, span(-2, 1), span(-1, 0)},
		{1, 2, 0, -128, 127, span(-1, 2), span(0, 1)},
		{3, 2, 0, -128, 127, span(-10, 10), span(-8, 8)},
		{3, 2, -5, -128, 127, span(-10, 10), span(-13, 3)},
		{3, 1, 1, -128, 127, span(-3, 5), span(-4, 9)},
		{1, 62, 0, -128, 127, span(-128, 127), span(0, 0)},
		{math.MaxInt32, 62, 7, -128, 127, span(-128, 127), span(7, 7)},
		{math.MaxInt32, 31, 0, -128, 127, span(-128, 127), span(-128, 127)},
		{math.MaxInt32, 38, 0, -128, 127, span(-128, 127), span(-1, 1)},
		{math.MaxInt32, 0, 0, -128, 127, span(-1, 1), span(-128, 127)},
		{math.MaxInt32, 0, 5, -128, 127, span(0, 0), span(5, 5)},
		{math.MaxInt32, 0, -128, -128, 127, span(-128, -128), span(-128, -128)},
		// Zero pushes an end over the range, or what was beyond it back in.
		{1, 0, 100, -128, 127, span(-128, 127), span(-28, 127)},
		{1, 0, -100, -128, 127, span(-128, 127), span(-128, 27)},
		{1, 0, 127, -128, 127, span(-128, 0), span(-1, 127)},
		{1, 0, -128, -128, 127, span(0, 127), span(-128, -1)},
		{2, 0, -128, -128, 127, span(100, 127), span(72, 126)},
		{2, 0, 127, -128, 127, span(-127, -100), span(-127, -73)},
		// The range cuts the lower end, the upper one, both, none.
		{1, 0, 0, 0, 50, span(-10, 20), span(0, 20)},
		{1, 0, 0, -50, 15, span(-10, 20), span(-10, 15)},
		{1, 0, 0, -5, 15, span(-10, 20), span(-5, 15)},
		{1, 0, 0, -10, 20, span(-10, 20), span(-10, 20)},
		{1, 0, 0, 30, 40, span(-10, 20), span(30, 30)},
		{1, 0, 0, -40, -30, span(-10, 20), span(-30, -30)},
		{1, 0, 0, 3, 3, span(-10, 20), span(3, 3)},
		{1, 0, 25, 30, 40, span(-10, 20), span(30, 40)},
	} {
		op := scaledBy(rescale(), c.mult, c.shift, c.zero, c.lo, c.hi)
		expectByHand(t, "rescale", byHand{of(2, 2, 3), op, c.over, c.want})
	}
}

// P14.1: a Clamp, a Max and an Average bring the span to their range; of an
// Average it is so, because the least sum is the length times the least number.
func TestClampMaxAverage(t *testing.T) {
	for _, c := range []struct {
		lo, hi     int
		over, want api.Span
	}{
		{-128, 127, span(-128, 127), span(-128, 127)},
		{-128, 127, span(-7, 11), span(-7, 11)},
		{-128, 127, span(4, 4), span(4, 4)},
		{-128, 127, span(-9, -3), span(-9, -3)},
		{0, 7, span(-3, 5), span(0, 5)},
		{0, 7, span(-3, 9), span(0, 7)},
		{0, 7, span(2, 5), span(2, 5)},
		{0, 7, span(2, 9), span(2, 7)},
		{0, 7, span(0, 7), span(0, 7)},
		{0, 7, span(9, 12), span(7, 7)},
		{0, 7, span(-9, -2), span(0, 0)},
		{-3, -3, span(-128, 127), span(-3, -3)},
		{127, 127, span(-128, 126), span(127, 127)},
		{-128, -128, span(-127, 127), span(-128, -128)},
	} {
		in := of(2, 4, 3)
		ops := []api.Op{clamp()}
		for _, w := range []api.Window{kernel(1, 1, 1, 1), kernel(2, 2, 1, 1), kernel(1, 3, 2, 1), kernel(2, 4, 1, 1), kernel(2, 1, 1, 3)} {
			ops = append(ops, greatest(w), average(w))
		}
		for _, op := range ops {
			expectByHand(t, "clamp, max, average", byHand{in, within(op, c.lo, c.hi), c.over, c.want})
		}
	}
}

// P14.1: a Dense: its sums, scaled, moved and cut.
func TestDense(t *testing.T) {
	const least, most = math.MinInt16, math.MaxInt16
	for _, c := range []struct {
		bias                      int32
		weights                   []int16
		mult, shift, zero, lo, hi int
		over, want                api.Span
	}{
		{1, []int16{3, -2}, 1, 0, 0, -128, 127, span(0, 10), span(-19, 31)},
		{1, []int16{3, -2}, 1, 1, 0, -128, 127, span(0, 10), span(-10, 16)},
		{1, []int16{3, -2}, 1, 1, 3, -128, 127, span(0, 10), span(-7, 19)},
		{1, []int16{3, -2}, 1, 1, 3, -5, 127, span(0, 10), span(-5, 19)},
		{1, []int16{3, -2}, 1, 1, 3, -128, 18, span(0, 10), span(-7, 18)},
		{1, []int16{3, -2}, 1, 1, 3, 0, 1, span(0, 10), span(0, 1)},
		{1, []int16{3, -2}, 5, 0, 0, -128, 127, span(0, 10), span(-95, 127)},
		{1, []int16{3, -2}, 1, 0, 0, -128, 127, span(4, 4), span(5, 5)},
		{1, []int16{3, -2}, 1, 0, 0, -128, 127, span(-4, -4), span(-3, -3)},
		{1, []int16{3, -2}, 1, 0, 0, -128, 127, span(-4, -2), span(-7, 3)},
		{0, []int16{0}, 9, 0, -4, -128, 127, span(-128, 127), span(-4, -4)},
		{-6, []int16{1, 1, 1}, 1, 2, 0, -128, 127, span(0, 2), span(-2, 0)},
		{6, []int16{-1, -1, -1}, 1, 2, 0, -128, 127, span(0, 2), span(0, 2)},
		{math.MaxInt32, []int16{1}, 1, 31, 0, -128, 127, span(-128, 127), span(1, 1)},
		{math.MinInt32, []int16{1}, 1, 32, 0, -128, 127, span(-1, 1), span(-1, 0)},
		{math.MaxInt32, []int16{1}, math.MaxInt32, 0, 127, -128, 127, span(-128, 127), span(127, 127)},
		{math.MinInt32, []int16{-1}, math.MaxInt32, 0, 127, -128, 127, span(-128, 127), span(-128, -128)},
		{0, []int16{most}, 1, 16, 0, -128, 127, span(-128, 127), span(-64, 63)},
		{0, []int16{least}, 1, 16, 0, -128, 127, span(-128, 127), span(-64, 64)},
	} {
		m := row(c.bias, c.weights...)
		op := scaledBy(m.Ops[0], c.mult, c.shift, c.zero, c.lo, c.hi)
		expectByHand(t, "dense", byHand{m.In, op, c.over, c.want})
	}
}

// P14.1: as far as sums go, beyond int32 on either side: from -255 * 2^24 to
// 255 * 2^24 - 127 * 2^9 - 1.
func TestFarthestSums(t *testing.T) {
	all := list(span(-128, 127))
	expectOut(t, "farthest", farthest(api.Scale{Mult: 1, Shift: 25}), 1, all, span(-123, 127), api.OK)
	expectOut(t, "farthest", farthest(api.Scale{Mult: 1, Shift: 26}), 1, all, span(-59, 69), api.OK)
	expectOut(t, "farthest", farthest(api.Scale{Mult: 1, Shift: 62}), 1, all, span(5, 5), api.OK)
	expectOut(t, "farthest", farthest(api.Scale{Mult: math.MaxInt32}), 1, all, span(-128, 127), api.OK)
}

// eachOrder does something with the channels' weights and biases in each order.
func eachOrder(weights [3][]int16, biases [3]int32, do func(weights []int16, biases []int32)) {
	for _, o := range [][3]int{{0, 1, 2}, {0, 2, 1}, {1, 0, 2}, {1, 2, 0}, {2, 0, 1}, {2, 1, 0}} {
		do(slices.Concat(weights[o[0]], weights[o[1]], weights[o[2]]), []int32{biases[o[0]], biases[o[1]], biases[o[2]]})
	}
}

// P14.1: channels whose Totals differ: each end comes of another channel, and
// it doesn't matter which channel is which.
func TestChannelsThatDiffer(t *testing.T) {
	// Over 2 to 5: 4 to 10; -55 to -52; 34 to 40.
	pairs := [3][]int16{{1, 1}, {-1, 0}, {0, 2}}
	biases := [3]int32{0, -50, 30}
	eachOrder(pairs, biases, func(weights []int16, biases []int32) {
		for _, c := range []struct {
			mult, shift, zero, lo, hi int
			want                      api.Span
		}{
			{1, 0, 0, -128, 127, span(-55, 40)},
			{1, 1, 0, -128, 127, span(-28, 20)},
			{3, 0, 0, -128, 127, span(-128, 120)},
			{1, 0, -100, -128, 127, span(-128, -60)},
			{1, 0, 0, -20, 35, span(-20, 35)},
		} {
			full := api.Op{Kind: api.Dense, M: 3, Weights: weights, Bias: biases}
			expectByHand(t, "dense", byHand{of(1, 1, 2), scaledBy(full, c.mult, c.shift, c.zero, c.lo, c.hi), span(2, 5), c.want})
			full = api.Op{Kind: api.Conv, M: 3, Win: kernel(1, 1, 1, 1), Weights: weights, Bias: biases}
			expectByHand(t, "conv", byHand{of(2, 3, 2), scaledBy(full, c.mult, c.shift, c.zero, c.lo, c.hi), span(2, 5), c.want})
			full = api.Op{Kind: api.Depthwise, Win: kernel(1, 2, 1, 1), Weights: weights, Bias: biases}
			expectByHand(t, "depthwise", byHand{of(2, 3, 3), scaledBy(full, c.mult, c.shift, c.zero, c.lo, c.hi), span(2, 5), c.want})
		}
	})
}

// P14.1: padding beside the plane, Pad within the span, at its ends and beyond
// them: at position 0 the terms are 4 * Pad and what is read, at 1 both are
// read.
func TestPadding(t *testing.T) {
	for _, c := range []struct {
		pad         int
		over        api.Span
		mult, shift int
		want        api.Span
	}{
		{-3, span(0, 2), 1, 0, span(-12, 10)},
		{0, span(0, 2), 1, 0, span(0, 10)},
		{1, span(0, 2), 1, 0, span(0, 10)},
		{2, span(0, 2), 1, 0, span(0, 10)},
		{3, span(0, 2), 1, 0, span(0, 14)},
		{1, span(5, 6), 1, 0, span(9, 30)},
		{-7, span(-6, -5), 1, 0, span(-34, -25)},
		{0, span(-6, -5), 1, 0, span(-30, -5)},
		{127, span(0, 2), 1, 2, span(0, 127)},
		{100, span(0, 2), 1, 2, span(0, 101)},
		{-100, span(0, 2), 1, 2, span(-100, 3)},
		{-128, span(-128, 127), 1, 3, span(-80, 79)},
		{9, span(9, 9), 1, 1, span(23, 23)},
	} {
		w := padded(kernel(1, 2, 1, 1), 0, 1, 0, 0)
		for _, op := range []api.Op{{Kind: api.Conv, M: 1}, {Kind: api.Depthwise}} {
			op.Win, op.Weights, op.Bias, op.Pad = w, []int16{4, 1}, []int32{0}, c.pad
			expectByHand(t, "padding", byHand{of(1, 2, 1), scaledBy(op, c.mult, c.shift, 0, -128, 127), c.over, c.want})
		}
	}
}

// P14.1: padding that the steps pass by plays no part.
func TestPaddingThatNothingCovers(t *testing.T) {
	w := padded(kernel(2, 2, 32, 32), 0, 0, 1, 1)
	op := exact(api.Op{Kind: api.Conv, M: 1, Win: w, Weights: []int16{1, 1, 1, 1}, Bias: []int32{0}, Pad: -100})
	expectByHand(t, "not covered", byHand{of(3, 3, 1), op, span(-1, 4), span(-4, 16)})
}

// P14.1: an Add of two tensors, either way round, each with its own scale, and
// of one tensor with itself.
func TestAdd(t *testing.T) {
	for _, c := range []struct {
		sa, sb     api.Scale
		zero       int
		lo, hi     int
		a, b, want api.Span
	}{
		{times(1), times(1), 0, -128, 127, span(-3, 5), span(10, 20), span(7, 25)},
		{times(1), times(1), 0, -128, 127, span(-3, 5), span(-3, 5), span(-6, 10)},
		{times(2), times(3), 0, -128, 127, span(-3, 5), span(10, 20), span(24, 70)},
		{times(3), times(2), 1, -128, 127, span(-3, 5), span(10, 20), span(12, 56)},
		// Each is rounded by itself: -1.5 and 1.5 to -2 and 2, -0.25 to 0.
		{api.Scale{Mult: 1, Shift: 1}, api.Scale{Mult: 1, Shift: 1}, 0, -128, 127, span(-3, 3), span(-3, 3), span(-4, 4)},
		{api.Scale{Mult: 1, Shift: 1}, api.Scale{Mult: 1, Shift: 2}, 0, -128, 127, span(-3, 3), span(-1, 2), span(-2, 3)},
		{api.Scale{Mult: 1, Shift: 1}, api.Scale{Mult: 1, Shift: 1}, 0, -128, 127, span(-1, 1), span(1, 1), span(0, 2)},
		// Both are far beyond the range on either side of it.
		{times(math.MaxInt32), times(math.MaxInt32), 0, -128, 127, span(-128, 127), span(-128, 127), span(-128, 127)},
		{times(math.MaxInt32), times(math.MaxInt32), 3, -128, 127, span(-128, -128), span(127, 127), span(-128, -128)},
		{times(math.MaxInt32), times(math.MaxInt32), 3, -128, 127, span(-127, 127), span(-127, 127), span(-128, 127)},
		{times(math.MaxInt32), times(math.MaxInt32), 3, -128, 127, span(-127, -127), span(127, 127), span(3, 3)},
		{times(1), times(1), 100, -128, 127, span(-100, 50), span(-100, 50), span(-100, 127)},
		{times(1), times(1), -128, -128, 127, span(0, 127), span(0, 127), span(-128, 126)},
		{times(1), times(1), 0, 0, 127, span(-100, 50), span(0, 0), span(0, 50)},
		{times(1), times(1), 0, -5, 5, span(-100, 50), span(0, 0), span(-5, 5)},
		{times(1), times(1), 0, 60, 70, span(-100, 50), span(0, 0), span(60, 60)},
	} {
		in := of(2, 1, 2)
		op := within(api.Op{Kind: api.Add, SA: c.sa, SB: c.sb, Zero: c.zero}, c.lo, c.hi)
		for at := range 3 {
			for bt := range 3 {
				op.A, op.B = at, bt
				m := star(in, within(clamp(), -9, 9), widest(rescale()), op)
				ranges := list(span(9, 0), span(0, 900), span(-900, 0))
				ranges[at], ranges[bt] = c.a, c.b
				if at != bt || c.a == c.b {
					expectOut(t, "add", m, 3, ranges, c.want, api.OK)
				}
			}
		}
	}
}

// P14.2: 64 ops, each of which moves the span by one; and such that halve it.
func TestManyOps(t *testing.T) {
	m := declaring(0, 10, chain(of(1, 1, 2), repeated(scaledBy(rescale(), 1, 0, 1, -128, 70))...))
	var want []api.Span
	for n := range int64(api.MaxOps + 1) {
		want = append(want, span(n, min(70, n+10)))
	}
	expectSpread(t, "64 ops", m, want, api.Fault{})
	for op := 1; op <= api.MaxOps; op++ {
		expectOut(t, "64 ops", m, op, want[:op], want[op], api.OK)
	}
	m = declaring(-128, 127, chain(of(1, 1, 2), repeated(scaledBy(rescale(), 1, 1, 0, -128, 127))...))
	want = list(span(-128, 127), span(-64, 64), span(-32, 32), span(-16, 16), span(-8, 8), span(-4, 4), span(-2, 2))
	want = append(want, slices.Repeat(list(span(-1, 1)), api.MaxOps-6)...)
	expectSpread(t, "64 halves", m, want, api.Fault{})
}

// P14.2: ops that read other tensors than the one right ahead.
func TestSpreadThroughOtherTensors(t *testing.T) {
	in := of(1, 1, 1)
	ops := []api.Op{exact(add(0, 0)), exact(add(0, 1)), exact(add(2, 1)), exact(add(3, 0)), exact(add(1, 4)), within(clamp(), -2, 9), exact(add(6, 5))}
	ops[5].A = 2
	want := list(span(-1, 2), span(-2, 4), span(-3, 6), span(-5, 10), span(-6, 12), span(-8, 16), span(-2, 6), span(-10, 22))
	expectSpread(t, "other tensors", declaring(-1, 2, star(in, ops...)), want, api.Fault{})
	m := declaring(-1, 2, star(of(1, 2, 1),
		within(clamp(), 1, 1), exact(api.Op{Kind: api.Dense, M: 2, Weights: []int16{2, 3, -1, 0}, Bias: []int32{0, 7}}),
		average(kernel(1, 2, 1, 1)), greatest(kernel(1, 1, 1, 1)), exact(api.Op{Kind: api.Dense, A: 1, M: 1, Weights: []int16{4, 5}, Bias: []int32{0}}), exact(add(4, 0))))
	expectSpread(t, "stars", m, list(span(-1, 2), span(1, 1), span(-5, 10), span(-1, 2), span(-1, 2), span(9, 9), span(-2, 4)), api.Fault{})
}

// P14.2: a model without ops has the input's range alone, and which tensor is
// the output plays no part.
func TestSpreadOfLittle(t *testing.T) {
	for _, s := range spans() {
		expectSpread(t, "no ops", declaring(int(s.Lo), int(s.Hi), star(of(2, 3, 4))), list(s), api.Fault{})
	}
	m := everyKind()
	want, _ := flow.Spread(m)
	for m.Out = range len(m.Ops) + 1 {
		expectSpread(t, "another output", m, want, api.Fault{})
	}
}

// some are numbers of ops: all, or, if there are many, a few of them.
func some(m api.Model) []int {
	if isGreat(m) && len(m.Ops) > 2 {
		return []int{0, 1, 2, 33, 64, 65}
	}
	var list []int
	for op := range len(m.Ops) + 2 {
		list = append(list, op)
	}
	return list
}

// isGreat: is it much work to go through the model?
func isGreat(m api.Model) bool {
	return len(m.Ops) == api.MaxOps || m.In.H*m.In.W*m.In.C > 100
}

// holdAgainstSecond holds Out of each op over these ranges, as many as the
// model's tensors, and lists cut and lengthened, to the second reading.
func holdAgainstSecond(t *testing.T, name string, m api.Model, ranges []api.Span) {
	t.Helper()
	for _, op := range some(m) {
		for _, n := range []int{op - 1, op, len(ranges)} {
			cut := ranges[:max(0, min(n, len(ranges)))]
			want, e := secondOut(m, op, cut)
			expectOut(t, name, m, op, cut, want, e)
		}
		if t.Failed() {
			t.Fatalf("%s: op %d: %+v", name, op, m)
		}
	}
}

// P14.1, P14.2: models of all sorts, over spans of values and others.
func TestAgainstSecondReading(t *testing.T) {
	r := rand.New(rand.NewSource(141))
	for _, n := range allModels() {
		want, f := secondSpread(n.m)
		expectSpread(t, n.name, n.m, want, f)
		over := append(spans(), noSpans()...)
		if isGreat(n.m) {
			over = list(span(-128, 127), span(3, 9), span(5, 4))
		}
		for _, s := range over {
			holdAgainstSecond(t, n.name, n.m, slices.Repeat(list(s), len(n.m.Ops)+1))
			ranges := anySpans(r, len(n.m.Ops)+1)
			ranges[r.Intn(len(ranges))] = s
			holdAgainstSecond(t, n.name, n.m, ranges)
		}
	}
}

func TestAgainstSecondReadingRandom(t *testing.T) {
	r := rand.New(rand.NewSource(142))
	// Of each kind: how many there are, and how many whose span isn't cut at
	// both ends, so that its sums, scales and Zero are to be seen.
	var ops, seen [9]int
	for range 6000 {
		m := declaring(-128, 127, anyModel(r, 6))
		m.Lo += r.Intn(100)
		m.Hi -= r.Intn(100)
		want, f := secondSpread(m)
		expectSpread(t, "random", m, want, f)
		for i, op := range m.Ops {
			ops[op.Kind]++
			if s := want[i+1]; s.Lo > int64(op.Lo) || s.Hi < int64(op.Hi) {
				seen[op.Kind]++
			}
		}
		holdAgainstSecond(t, "random", m, anySpans(r, len(m.Ops)+1))
		ranges := anySpans(r, len(m.Ops)+1+r.Intn(3))
		ranges[r.Intn(len(ranges))] = anyOf(r, noSpans()...)
		holdAgainstSecond(t, "random", m, ranges)
	}
	for kind := 1; kind <= 8; kind++ {
		if ops[kind] < 500 || seen[kind] < 200 {
			t.Errorf("kind %d: only %d ops, of which %d aren't cut at both ends", kind, ops[kind], seen[kind])
		}
	}
}

// P14.1: T is the hull of layer 13's Totals; where nothing is scaled or cut, it
// is what comes of the op.
func TestHullOfTotals(t *testing.T) {
	r := rand.New(rand.NewSource(143))
	for range 2000 {
		in := of(1+r.Intn(4), 1+r.Intn(4), 1+r.Intn(3))
		op := exact(anyOf(r, dense(in, 1+r.Intn(4)), conv(in, 1+r.Intn(4), anyWindow(r, in, true)), depthwise(in, anyWindow(r, in, true))))
		for i := range op.Weights {
			op.Weights[i] = int16(r.Intn(7) - 3)
		}
		for i := range op.Bias {
			op.Bias[i] = int32(r.Intn(41) - 20)
		}
		m, s := star(in, op), span(int64(-r.Intn(3)), int64(r.Intn(3)))
		all := none()
		for ch := 1; ch <= channelsOf(m, 1); ch++ {
			total, _ := bound.Total(m, 1, ch, s)
			all.take(total.Lo, total.Hi)
		}
		expectOut(t, "totals", m, 1, list(s), span(min(127, max(-128, all.Lo)), max(-128, min(127, all.Hi))), api.OK)
	}
}

// P14.1: only the op itself, what it reads and the shapes play a part: not the
// model's declared range, its Out, or what other ops make.
func TestOthersPlayNoPart(t *testing.T) {
	in := of(4, 3, 2)
	s := span(-11, 20)
	for _, op := range oneOfEach() {
		want := secondComes(star(in, op), 1, list(s))
		other := op
		other.A = 1
		if op.Kind == api.Add {
			other.B = 1
		}
		wider := declaring(5, 5, star(in, within(clamp(), 7, 7), other, rescale()))
		wider.Out = 0
		expectOut(t, "others", wider, 2, list(span(-1, -1), s), want, api.OK)
		expectOut(t, "others", wider, 2, list(span(-1, -1), s, span(4, 4), span(9, 9)), want, api.OK)
	}
}

package bound_test

import (
	"testing"

	"spillway/api"
)

// times are the ends of a weight and a span.
func times(w int64, s api.Span) api.Span {
	return span(min(w*s.Lo, w*s.Hi), max(w*s.Lo, w*s.Hi))
}

func hullOf(spans ...api.Span) api.Span {
	g := none()
	for _, s := range spans {
		g.take(s.Lo, s.Hi)
	}
	return api.Span(g)
}

func sumOf(spans ...api.Span) api.Span {
	var sum api.Span
	for _, s := range spans {
		sum.Lo, sum.Hi = sum.Lo+s.Lo, sum.Hi+s.Hi
	}
	return sum
}

// pads are within a span's ends, at them and beyond them, of either sign.
func pads() []int { return []int{-128, -9, -4, -3, -1, 0, 1, 2, 6, 7, 8, 127} }

// P13.1 to P13.4: a plane of two places with padding at one side, or at both:
// what each position's two terms are is known. The padding counts at the
// positions that cover it, and at no other.
func TestPaddingAtASide(t *testing.T) {
	const u, v = 30, -20
	for _, s := range []api.Span{span(-3, 7), span(1, 7), span(-9, -4), span(0, 0), span(-128, 127)} {
		for _, pad := range pads() {
			p := span(int64(pad), int64(pad))
			within := []api.Span{times(u, s), times(v, s)}
			ahead := []api.Span{times(u, p), times(v, s)}
			behind := []api.Span{times(u, s), times(v, p)}
			for _, upright := range []bool{false, true} {
				in, k := of(1, 2, 1), kernel(1, 2, 1, 1)
				first, last := padded(k, 0, 1, 0, 0), padded(k, 0, 0, 0, 1)
				both := padded(k, 0, 1, 0, 1)
				if upright {
					in, k = of(2, 1, 1), kernel(2, 1, 1, 1)
					first, last = padded(k, 1, 0, 0, 0), padded(k, 0, 0, 1, 0)
					both = padded(k, 1, 0, 1, 0)
				}
				expectRows(t, in, k, pad, s, within)
				expectRows(t, in, first, pad, s, ahead, within)
				expectRows(t, in, last, pad, s, within, behind)
				expectRows(t, in, both, pad, s, ahead, within, behind)
			}
		}
	}
}

// expectRows holds the calls to what these positions' terms say, of a Conv and
// of a Depthwise with the weights 30 and -20 and the bias 1000.
func expectRows(t *testing.T, in api.Shape, w api.Window, pad int, s api.Span, rows ...[]api.Span) {
	t.Helper()
	bias := span(1000, 1000)
	var totals, runs, singles, parts []api.Span
	for _, row := range rows {
		totals = append(totals, sumOf(bias, row[0], row[1]))
		runs = append(runs, bias, sumOf(bias, row[0]), sumOf(bias, row[0], row[1]))
		singles = append(singles, row...)
		parts = append(parts, row[0], row[1], sumOf(row...))
	}
	wide, deep := conv(in, 1, w), depthwise(in, w)
	for _, op := range []*api.Op{&wide, &deep} {
		op.Weights, op.Bias, op.Pad = []int16{30, -20}, []int32{1000}, pad
	}
	m := star(in, wide, deep)
	for op := 1; op <= 2; op++ {
		expectTotal(t, "a side", m, op, 1, s, hullOf(totals...), api.OK)
		expectRun(t, "a side", m, op, 1, s, hullOf(runs...), api.OK)
		expectProduct(t, "a side", m, op, 1, s, hullOf(singles...), api.OK)
		expectPart(t, "a side", m, op, 1, s, 1, hullOf(singles...), api.OK)
		expectPart(t, "a side", m, op, 1, s, 2, hullOf(parts...), api.OK)
		expectPart(t, "a side", m, op, 1, s, 3, api.Span{}, api.ErrDepth)
	}
}

// P13.1 to P13.4: padding that the steps pass by plays no part.
func TestPaddingThatNothingCovers(t *testing.T) {
	in := of(3, 3, 1)
	s := span(-1, 4)
	for _, w := range []api.Window{
		padded(kernel(2, 2, 32, 32), 0, 0, 1, 0), padded(kernel(2, 2, 32, 32), 0, 0, 0, 1), padded(kernel(2, 2, 32, 32), 0, 0, 1, 1),
		padded(kernel(1, 2, 2, 3), 0, 0, 0, 1), padded(kernel(2, 1, 3, 2), 0, 0, 1, 0),
	} {
		op := conv(in, 1, w)
		op.Bias, op.Pad, op.Weights = []int32{50}, -100, counted[int16](w.KH*w.KW, 1, 0)
		n := int64(w.KH * w.KW)
		m := star(in, op)
		expectTotal(t, "not covered", m, 1, 1, s, span(50-n, 50+4*n), api.OK)
		expectRun(t, "not covered", m, 1, 1, s, span(50-n, 50+4*n), api.OK)
		expectProduct(t, "not covered", m, 1, 1, s, s, api.OK)
		expectPart(t, "not covered", m, 1, 1, s, 2, span(-2, 8), api.OK)
	}
}

// P13.1 to P13.4: every position but one tap in padding: of the four positions
// each has another tap over the one place of the plane.
func TestAllTapsButOneInPadding(t *testing.T) {
	in := of(1, 1, 1)
	op := depthwise(in, padded(kernel(2, 2, 1, 1), 1, 1, 1, 1))
	op.Weights, op.Bias, op.Pad = []int16{1, 10, 100, 1000}, []int32{5}, -2
	m := star(in, op)
	// The number 3 stands under the weights 1000, 100, 10 and 1 in turn; all
	// padding would come to -2222.
	s := span(3, 3)
	expectTotal(t, "all but one", m, 1, 1, s, span(5-2222+5, 5-2222+5000), api.OK)
	expectProduct(t, "all but one", m, 1, 1, s, span(-2000, 3000), api.OK)
	expectRun(t, "all but one", m, 1, 1, s, span(5-2222+5, 5-2222+5000), api.OK)
	expectPart(t, "all but one", m, 1, 1, s, 2, span(-2200, 3000), api.OK)
	expectPart(t, "all but one", m, 1, 1, s, 3, span(-2000, 3000), api.OK)
	expectPart(t, "all but one", m, 1, 1, s, 4, span(-2217, 3000), api.OK)
}

// P13.1 to P13.3: the ends come from several positions: the least from one, the
// greatest from another, neither the first nor the last.
func TestEveryPositionCounts(t *testing.T) {
	in := of(1, 3, 1)
	// Positions 0 to 4 cover, from the left: P P 0, P 0 1, 0 1 2, 1 2 P, 2 P P.
	op := conv(in, 1, padded(kernel(1, 3, 1, 1), 0, 2, 0, 2))
	op.Bias, op.Pad = []int32{0}, 10
	for _, c := range []struct {
		weights             []int16
		s                   api.Span
		total, run, product api.Span
		parts               []api.Span
	}{
		{[]int16{1, 1, 1}, span(1, 1), span(3, 21), span(0, 21), span(1, 10), []api.Span{span(1, 10), span(1, 20), span(1, 21)}},
		{[]int16{1, -5, 1}, span(1, 1), span(-39, 6), span(-49, 10), span(-50, 10), []api.Span{span(-50, 10), span(-50, 10), span(-50, 10)}},
		{[]int16{-1, 5, 1}, span(1, 1), span(-4, 59), span(-10, 59), span(-10, 50), []api.Span{span(-10, 50), span(-10, 50), span(-10, 59)}},
		{[]int16{5, -4, 1}, span(0, 0), span(-30, 50), span(-40, 50), span(-40, 50), []api.Span{span(-40, 50), span(-40, 50), span(-40, 50)}},
		{[]int16{-3, 7, -3}, span(1, 2), span(-29, 37), span(-30, 67), span(-30, 70), []api.Span{span(-30, 70), span(-30, 70), span(-30, 70)}},
	} {
		op.Weights = c.weights
		m := star(in, op)
		expectTotal(t, "positions", m, 1, 1, c.s, c.total, api.OK)
		expectRun(t, "positions", m, 1, 1, c.s, c.run, api.OK)
		expectProduct(t, "positions", m, 1, 1, c.s, c.product, api.OK)
		for i, part := range c.parts {
			expectPart(t, "positions", m, 1, 1, c.s, i+1, part, api.OK)
		}
	}
}

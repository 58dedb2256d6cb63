package depth_test

import (
	"math"
	"math/rand"
	"slices"
	"testing"

	"spillway/api"
)

// The chapter's examples.
func TestExamplesOfChapter(t *testing.T) {
	m, s := row(0, 200, 200), span(0, 127)
	expectSafe(t, "1", m, 1, 1, s, 1, true, api.OK)
	expectSafe(t, "1", m, 1, 1, s, 2, false, api.OK)
	expectMost(t, "1", m, 1, 1, s, 1, api.OK)
	expectChoose(t, "1", m, 1, 1, s, narrow(1, span(0, 25400), span(0, 50800)), api.OK)

	m, s = row(0, 300, 1), span(-128, 127)
	run := span(-38400-128, 38100+127)
	expectMost(t, "2", m, 1, 1, s, 0, api.OK)
	expectChoose(t, "2", m, 1, 1, s, wide(2, run, run), api.OK)

	m, s = row(0, 200, -200, 200, 200), span(100, 127)
	for i, safe := range []bool{true, false, true, false} {
		expectSafe(t, "3", m, 1, 1, s, i+1, safe, api.OK)
	}
	expectMost(t, "3", m, 1, 1, s, 3, api.OK)
	expectChoose(t, "3", m, 1, 1, s, narrow(3, span(-25400, 30800), span(3*20000-25400, 3*25400-20000)), api.OK)

	m = row(0, -200, 300)
	expectSafe(t, "4", m, 1, 1, s, 1, false, api.OK)
	expectSafe(t, "4", m, 1, 1, s, 2, false, api.OK)
	expectMost(t, "4", m, 1, 1, s, 0, api.OK)
	expectChoose(t, "4", m, 1, 1, s, wide(2, span(-25400, 18100), span(4600, 18100)), api.OK)
}

// The document's examples 2 to 5.
func TestExamplesOfDocument(t *testing.T) {
	expectChoose(t, "2", denseExample(), 1, 1, span(0, 10), narrow(2, span(-20, 30), span(-19, 31)), api.OK)
	run := span(-38528, 38227)
	expectChoose(t, "3", row(0, 300, 1), 1, 1, span(-128, 127), wide(2, run, run), api.OK)
	expectChoose(t, "4", row(0, 200, 200), 1, 1, span(0, 127), narrow(1, span(0, 25400), span(0, 50800)), api.OK)
	far := slices.Repeat([]int16{math.MinInt16}, 512)
	expectChoose(t, "5", row(0, far...), 1, 1, span(-128, 127), api.Chan{}, api.ErrWide)
	run = span(-127*512*32768-1, math.MaxInt32)
	expectChoose(t, "5", row(-1, far...), 1, 1, span(-128, 127), wide(512, run, run), api.OK)
	expectMost(t, "5", row(0, far...), 1, 1, span(-128, 127), 0, api.OK)
}

// byHand is a row of weights over a span: which depths are safe, and what is
// chosen.
type byHand struct {
	weights []int16
	s       api.Span
	safe    []int
	plan    api.Chan
}

// rowsByHand have a bias of 7.
func rowsByHand() []byHand {
	const most, least = math.MaxInt16, math.MinInt16
	one, less := span(1, 1), span(-1, -1)
	return []byHand{
		// Ops of length 1: the one depth is safe, or none is.
		{[]int16{0}, span(-128, 127), []int{1}, narrow(1, span(0, 0), span(7, 7))},
		{[]int16{most}, one, []int{1}, narrow(1, span(most, most), span(7+most, 7+most))},
		{[]int16{least}, one, []int{1}, narrow(1, span(least, least), span(7+least, 7+least))},
		{[]int16{most}, less, []int{1}, narrow(1, span(-most, -most), span(7-most, 7-most))},
		{[]int16{least}, less, nil, wide(1, span(7, 7+32768), span(7+32768, 7+32768))},
		{[]int16{256}, span(-128, 127), []int{1}, narrow(1, span(-32768, 32512), span(7-32768, 7+32512))},
		{[]int16{-256}, span(-128, 127), nil, wide(1, span(7-32512, 7+32768), span(7-32512, 7+32768))},
		{[]int16{-256}, span(-127, 127), []int{1}, narrow(1, span(-32512, 32512), span(7-32512, 7+32512))},
		{[]int16{258}, span(0, 127), []int{1}, narrow(1, span(0, 32766), span(7, 7+32766))},
		{[]int16{259}, span(0, 127), nil, wide(1, span(7, 7+32893), span(7, 7+32893))},
		// Every depth is safe.
		{[]int16{1, 2, 3}, span(-128, 127), []int{1, 2, 3}, narrow(3, span(-768, 762), span(7-768, 7+762))},
		{[]int16{16384, 16383}, one, []int{1, 2}, narrow(2, span(16383, most), span(7+most, 7+most))},
		{[]int16{-16384, -16384}, one, []int{1, 2}, narrow(2, span(least, -16384), span(7+least, 7+least))},
		// Depth 1 alone: one beyond an end in the first block.
		{[]int16{16384, 16384}, one, []int{1}, narrow(1, span(16384, 16384), span(7+32768, 7+32768))},
		{[]int16{-16384, -16385}, one, []int{1}, narrow(1, span(-16385, -16384), span(7-32769, 7-32769))},
		{[]int16{16384, 16384}, less, []int{1, 2}, narrow(2, span(least, -16384), span(7-32768, 7-32768))},
		// At an end, and one beyond it, in a second block.
		{[]int16{0, 0, most - 1, 1}, one, []int{1, 2, 3, 4}, narrow(4, span(0, most), span(7+most, 7+most))},
		{[]int16{-1, 0, most - 1, 2}, one, []int{1, 3, 4}, narrow(4, span(-1, most), span(7+most, 7+most))},
		{[]int16{1, 0, least + 1, -2}, one, []int{1, 3, 4}, narrow(4, span(least, 1), span(7+least, 7+least))},
		{[]int16{1, 0, least + 1, -1}, one, []int{1, 2, 3, 4}, narrow(4, span(least+1, 1), span(8+least, 8+least))},
		// The same in a last block that is shorter.
		{[]int16{-1, -1, -1, most, 1}, one, []int{1, 2, 4, 5}, narrow(5, span(-3, most), span(7+most-2, 7+most-2))},
		{[]int16{-1, -1, -1, most, 0}, one, []int{1, 2, 3, 4, 5}, narrow(5, span(-3, most), span(7+most-3, 7+most-3))},
		{[]int16{1, 1, 1, least, -1}, one, []int{1, 2, 4, 5}, narrow(5, span(least, 3), span(7+least+2, 7+least+2))},
		// Beyond an end in the midst of a block, which ends within it.
		{[]int16{most, 1, -1}, one, []int{1}, narrow(1, span(-1, most), span(7+most, 7+most))},
		{[]int16{most, 1, -1, -1}, one, []int{1}, narrow(1, span(-1, most), span(7+most-1, 7+most-1))},
		{[]int16{1, most, -1, -1}, one, []int{1}, narrow(1, span(-1, most), span(7+most-1, 7+most-1))},
		{[]int16{0, most, 1, -1}, one, []int{1, 2}, narrow(2, span(-1, most), span(7+most, 7+most))},
		// A product beyond an end, with all partial sums within.
		{[]int16{1, least, 1}, less, nil, wide(3, span(6, 7+32767), span(7+32766, 7+32766))},
		{[]int16{1, least + 1, 1}, less, []int{1, 2, 3}, narrow(3, span(-1, 32767), span(7+32765, 7+32765))},
		{[]int16{-200, 300}, span(100, 127), nil, wide(2, span(7-25400, 7+18100), span(7+4600, 7+18100))},
		// A depth is safe, and a lesser one isn't.
		{[]int16{200, -200, 200, 200}, span(100, 127), []int{1, 3}, narrow(3, span(-25400, 30800), span(7+34600, 7+56200))},
		{[]int16{-1, 1, -1, most, 1, -1}, one, []int{1, 2, 4, 5, 6}, narrow(6, span(-1, most), span(7+most-1, 7+most-1))},
		{[]int16{0, 0, 0, 20000, 20000, 0}, one, []int{1, 2, 4}, narrow(4, span(0, 20000), span(7+40000, 7+40000))},
		{[]int16{20000, 10000, -30000, 20000, 20000, -30000, 20000}, one, []int{1, 2, 4}, narrow(4, span(-30000, 30000), span(7+30000, 7+30000))},
	}
}

// P18.1 to P18.3: by hand.
func TestByHand(t *testing.T) {
	for _, x := range rowsByHand() {
		m := row(7, x.weights...)
		r := read(m, 1, 1, x.s)
		if !slices.Equal(r.safe(), x.safe) {
			t.Errorf("%v over %v: the second reading finds %v; want %v", x.weights, x.s, r.safe(), x.safe)
		}
		for _, k := range upTo(len(x.weights)) {
			expectSafe(t, "by hand", m, 1, 1, x.s, k, slices.Contains(x.safe, k), api.OK)
		}
		for _, k := range depthsThatAreNone(len(x.weights)) {
			expectSafe(t, "by hand", m, 1, 1, x.s, k, false, api.ErrDepth)
		}
		expectMost(t, "by hand", m, 1, 1, x.s, slices.Max(append(x.safe, 0)), api.OK)
		expectChoose(t, "by hand", m, 1, 1, x.s, x.plan, api.OK)
	}
}

// P18.2: the bias plays no part in a register of 16 bits, however far out it
// is.
func TestBiasIsNotInBlocks(t *testing.T) {
	for _, bias := range []int32{0, 32767, 32768, -32768, -32769, math.MaxInt32 - 10, math.MinInt32 + 10} {
		m, s := row(bias, 1, 2, 3), span(-1, 1)
		b := int64(bias)
		expectMost(t, "the bias", m, 1, 1, s, 3, api.OK)
		expectChoose(t, "the bias", m, 1, 1, s, narrow(3, span(-6, 6), span(b-6, b+6)), api.OK)
	}
}

// P18.3: running sums at the ends of 32 bits, and one beyond them: the last
// one, one in the midst that comes back, the bias itself. Safe and Most don't
// ask for them.
func TestRunAtTheEnds(t *testing.T) {
	const most, least = math.MaxInt32, math.MinInt32
	for _, x := range []struct {
		bias    int32
		weights []int16
		s       api.Span
		total   api.Span
		fits    bool
	}{
		{most - 1, []int16{1}, span(1, 1), span(most, most), true},
		{most, []int16{1}, span(1, 1), span(most+1, most+1), false},
		{most, []int16{0}, span(1, 1), span(most, most), true},
		{most, []int16{-1}, span(0, 1), span(most-1, most), true},
		{most, []int16{1}, span(-1, 0), span(most-1, most), true},
		{most, []int16{1}, span(-1, 1), span(most-1, most+1), false},
		{least, []int16{-1}, span(1, 1), span(least-1, least-1), false},
		{least + 1, []int16{-1}, span(1, 1), span(least, least), true},
		{least, []int16{0}, span(1, 1), span(least, least), true},
		{least, []int16{1}, span(0, 1), span(least, least+1), true},
		{least, []int16{1}, span(-1, 0), span(least-1, least), false},
		{most, []int16{1, -1}, span(1, 1), span(most, most), false},
		{most - 1, []int16{1, -1}, span(1, 1), span(most-1, most-1), true},
		{most, []int16{-1, 1}, span(1, 1), span(most, most), true},
		{least, []int16{-1, 1}, span(1, 1), span(least, least), false},
		{least + 1, []int16{-1, 1}, span(1, 1), span(least+1, least+1), true},
		{most - 3, []int16{1, 2, 1, -4}, span(1, 1), span(most-3, most-3), false},
		{most - 4, []int16{1, 2, 1, -4}, span(1, 1), span(most-4, most-4), true},
	} {
		m, n := row(x.bias, x.weights...), len(x.weights)
		expectMost(t, "Run", m, 1, 1, x.s, n, api.OK)
		expectSafe(t, "Run", m, 1, 1, x.s, n, true, api.OK)
		if x.fits {
			expectChoose(t, "Run", m, 1, 1, x.s, narrow(n, read(m, 1, 1, x.s).part(n), x.total), api.OK)
		} else {
			expectChoose(t, "Run", m, 1, 1, x.s, api.Chan{}, api.ErrWide)
		}
		// The same with a product that needs 32 bits: a weight ahead, and its
		// opposite behind.
		weights := append(append([]int16{-300, 300}, x.weights...), 0)
		m = row(x.bias, weights...)
		shifted := span(127, 127)
		expectMost(t, "Run, wide", m, 1, 1, shifted, 0, api.OK)
		holdChannel(t, "Run, wide", m, 1, 1, shifted)
	}
}

// P18.3: running sums that leave 32 bits where no product fits 16.
func TestWideRunsAtTheEnds(t *testing.T) {
	const up = 127 * 32767
	for _, beyond := range []int64{-1, 0, 1, 2, 100} {
		bias := math.MaxInt32 - 3*up + beyond
		m := row(int32(bias), 32767, 32767, 32767, -1)
		total := span(bias+3*up-127, bias+3*up-127)
		if beyond <= 0 {
			expectChoose(t, "up", m, 1, 1, span(127, 127), wide(4, span(bias, bias+3*up), total), api.OK)
		} else {
			expectChoose(t, "up", m, 1, 1, span(127, 127), api.Chan{}, api.ErrWide)
		}
		bias = math.MinInt32 + 3*up - beyond
		m = row(int32(bias), -32767, -32767, -32767, 1)
		total = span(bias-3*up+127, bias-3*up+127)
		if beyond <= 0 {
			expectChoose(t, "down", m, 1, 1, span(127, 127), wide(4, span(bias-3*up, bias), total), api.OK)
		} else {
			expectChoose(t, "down", m, 1, 1, span(127, 127), api.Chan{}, api.ErrWide)
		}
	}
}

// P18.1 to P18.3: padding at one position alone breaks a depth, or bears one:
// a window of 1 by 4 over a plane of four, with padding at one side or at both.
func TestPadding(t *testing.T) {
	in := of(1, 4, 1)
	for _, x := range []struct {
		left, right, pad int
		weights          []int16
		s                api.Span
		safe             []int
	}{
		// Without padding there is but one position.
		{0, 0, 127, []int16{100, 100, 100, 100}, span(0, 81), []int{1, 2, 3, 4}},
		{0, 0, 127, []int16{100, 100, 100, 100}, span(0, 82), []int{1, 2, 3}},
		// Of two positions the padded one breaks depth 4, by 1.
		{1, 0, 84, []int16{100, 100, 100, 100}, span(81, 81), []int{1, 2, 3, 4}},
		{1, 0, 85, []int16{100, 100, 100, 100}, span(81, 81), []int{1, 2, 3}},
		{0, 1, 84, []int16{100, 100, 100, 100}, span(81, 81), []int{1, 2, 3, 4}},
		{0, 1, 85, []int16{100, 100, 100, 100}, span(81, 81), []int{1, 2, 3}},
		// Of seven positions one has three paddings and its blocks; the product
		// of padding alone is too great.
		{3, 3, 127, []int16{1, 1, 1, 258}, span(0, 127), []int{1, 3}},
		{3, 3, 127, []int16{1, 1, 1, 259}, span(0, 126), nil},
		{3, 3, 126, []int16{1, 1, 1, 259}, span(0, 126), []int{1, 2, 3}},
		{3, 0, 127, []int16{259, 0, 0, 0}, span(0, 1), nil},
		{3, 0, 126, []int16{259, 0, 0, 0}, span(0, 1), []int{1, 2, 3, 4}},
		{0, 3, 127, []int16{259, 0, 0, 0}, span(0, 1), []int{1, 2, 3, 4}},
		{0, 3, 127, []int16{0, 0, 0, 259}, span(0, 1), nil},
		{0, 3, -128, []int16{0, 0, 0, 256}, span(0, 1), []int{1, 2, 3, 4}},
		{0, 3, -128, []int16{0, 0, 0, -256}, span(0, 1), nil},
		// Padding within a block of two only, or only across two blocks.
		{2, 0, 100, []int16{200, 200, 0, 0}, span(0, 0), []int{1}},
		{3, 0, 100, []int16{0, 200, 200, 0}, span(0, 0), []int{1, 2}},
		{3, 0, 100, []int16{200, -200, 200, 0}, span(0, 0), []int{1, 2, 3, 4}},
		{3, 0, 100, []int16{-100, 200, 200, 0}, span(0, 0), []int{1, 2, 3, 4}},
		{2, 0, 100, []int16{-100, 200, 200, 0}, span(0, 127), []int{1, 2}},
	} {
		for _, upright := range []bool{false, true} {
			plane, w := in, padded(kernel(1, 4, 1, 1), 0, x.left, 0, x.right)
			if upright {
				plane, w = of(4, 1, 1), padded(kernel(4, 1, 1, 1), x.left, 0, x.right, 0)
			}
			whole, deep := conv(plane, 1, w), depthwise(plane, w)
			for _, op := range []*api.Op{&whole, &deep} {
				op.Weights, op.Bias, op.Pad = x.weights, []int32{0}, x.pad
			}
			m := star(plane, whole, deep)
			for op := 1; op <= 2; op++ {
				for _, k := range upTo(4) {
					expectSafe(t, "padding", m, op, 1, x.s, k, slices.Contains(x.safe, k), api.OK)
				}
				holdChannel(t, "padding", m, op, 1, x.s)
			}
		}
	}
}

// P18.1 to P18.3: an Average has weights of 1 and no bias, so that each depth
// is safe as long as so many of the furthest numbers fit.
func TestAverages(t *testing.T) {
	in := of(32, 16, 2)
	m := star(in, average(kernel(32, 16, 1, 1)), clamp(), average(kernel(32, 16, 1, 1)))
	m.Ops[2].A = 2
	for _, op := range []int{1, 3} {
		for ch := 1; ch <= 2; ch++ {
			for _, x := range []struct {
				s    api.Span
				most int
			}{
				{span(-128, 0), 256}, {span(-128, 127), 256}, {span(-127, 127), 258}, {span(0, 127), 258}, {span(0, 64), 511}, {span(0, 63), 512},
				{span(-64, 0), 512}, {span(-65, 0), 504}, {span(0, 0), 512},
			} {
				expectMost(t, "an Average", m, op, ch, x.s, x.most, api.OK)
				for _, k := range []int{1, 2, x.most - 1, x.most, x.most + 1, 512} {
					if k <= 512 {
						expectSafe(t, "an Average", m, op, ch, x.s, k, k <= x.most, api.OK)
					}
				}
				expectSafe(t, "an Average", m, op, ch, x.s, 513, false, api.ErrDepth)
				lo, hi := x.s.Lo*int64(x.most), x.s.Hi*int64(x.most)
				expectChoose(t, "an Average", m, op, ch, x.s, narrow(x.most, span(lo, hi), span(512*x.s.Lo, 512*x.s.Hi)), api.OK)
			}
		}
	}
}

// P18.1: depths at each end and beyond it, of ops of each kind that reduces:
// the op's length counts, whatever the lengths of others.
func TestDepthsThatAreNone(t *testing.T) {
	for _, n := range smallModels() {
		for _, at := range some(places(n.m), 6) {
			r := read(n.m, at.op, at.ch, span(-5, 6))
			for _, k := range depthsThatAreNone(r.length) {
				if k < 1 || k > r.length {
					expectSafe(t, n.name, n.m, at.op, at.ch, span(-5, 6), k, false, api.ErrDepth)
				}
			}
			for _, k := range []int{1, r.length} {
				expectSafe(t, n.name, n.m, at.op, at.ch, span(-5, 6), k, both(r.part(k), isInt16), api.OK)
			}
		}
	}
}

// P18.1 to P18.3: ops of every kind, first in their model and behind others,
// against the second reading, over all sorts of spans.
func TestModels(t *testing.T) {
	for _, n := range smallModels() {
		for _, at := range places(n.m) {
			for _, s := range spansOfValues() {
				holdChannel(t, n.name, n.m, at.op, at.ch, s)
			}
		}
	}
}

// steeper is the model with weights that are so many times as great, so that
// registers run over.
func steeper(m api.Model, by int16) api.Model {
	m.Ops = slices.Clone(m.Ops)
	for i, op := range m.Ops {
		m.Ops[i].Weights = slices.Clone(op.Weights)
		for k := range op.Weights {
			m.Ops[i].Weights[k] *= by
		}
	}
	return m
}

func TestSteepModels(t *testing.T) {
	for _, n := range smallModels() {
		for _, by := range []int16{2, -3, 5} {
			m := steeper(n.m, by)
			for _, at := range some(places(m), 9) {
				for _, s := range list(span(-128, 127), span(100, 127), span(-128, -90), span(0, 64)) {
					holdChannel(t, n.name, m, at.op, at.ch, s)
				}
			}
		}
	}
}

// P18.1 to P18.3: models at the limits.
func TestGreatModels(t *testing.T) {
	for _, n := range greatModels() {
		for _, at := range some(places(n.m), 3) {
			for _, s := range list(span(-128, 127), span(90, 127)) {
				r := read(n.m, at.op, at.ch, s)
				if r.length*len(r.rows) > 20000 {
					continue
				}
				depths := some(upTo(r.length), 9)
				holdChannel(t, n.name, n.m, at.op, at.ch, s, depths...)
			}
		}
	}
}

// P18.2: a plane of 127 times 127 positions.
func TestManyPositions(t *testing.T) {
	in := of(128, 128, 1)
	op := conv(in, 1, kernel(2, 2, 1, 1))
	op.Weights, op.Bias = []int16{200, 100, -250, 200}, []int32{5}
	m, s := star(in, op), span(100, 127)
	holdChannel(t, "many positions", m, 1, 1, s)
	expectMost(t, "many positions", m, 1, 1, s, 1, api.OK)
}

// P18.1 to P18.3: 512 terms: of weights that all are alike, and of such that
// come and go.
func TestLongSums(t *testing.T) {
	alike := func(w int16) []int16 { return slices.Repeat([]int16{w}, 512) }
	r := rand.New(rand.NewSource(184))
	waves := make([]int16, 512)
	for i := range waves {
		waves[i] = int16(90*math.Sin(float64(i)/7)) + int16(r.Intn(9))
	}
	lone := make([]int16, 512)
	lone[511] = 32767
	for _, x := range []struct {
		weights []int16
		s       api.Span
		most    int
	}{
		{alike(1), span(1, 1), 512}, {alike(63), span(1, 1), 512}, {alike(64), span(1, 1), 511}, {alike(-64), span(1, 1), 512}, {alike(-65), span(1, 1), 504},
		{alike(100), span(0, 127), 2}, {alike(200), span(-128, 127), 1}, {alike(300), span(-128, 127), 0}, {alike(32767), span(0, 1), 1},
		{lone, span(1, 1), 512}, {lone, span(-1, 1), 512}, {lone, span(0, 2), 0},
	} {
		m := row(-9, x.weights...)
		expectMost(t, "512 terms", m, 1, 1, x.s, x.most, api.OK)
		holdChannel(t, "512 terms", m, 1, 1, x.s, 1, 2, 3, 255, 256, 511, 512)
	}
	for _, s := range list(span(-128, 127), span(100, 127), span(30, 40)) {
		holdChannel(t, "waves", row(1, waves...), 1, 1, s)
	}
}

// P18.1 to P18.3: a Conv and a Depthwise of 512 terms, with padding at two of
// their positions.
func TestLongSumsOverPadding(t *testing.T) {
	through, plane := of(8, 8, 8), of(32, 16, 2)
	m := star(through,
		conv(through, 2, padded(kernel(8, 8, 1, 1), 1, 0, 0, 0)),
		conv(through, 64, kernel(1, 8, 1, 1)),
	)
	deep := star(plane, depthwise(plane, padded(kernel(32, 16, 1, 1), 0, 1, 0, 0)))
	for _, s := range list(span(-128, 127), span(-3, 2), span(100, 101)) {
		for _, m := range []api.Model{m, deep} {
			for _, at := range some(places(m), 4) {
				holdChannel(t, "long", m, at.op, at.ch, s, 1, 2, 3, 64)
			}
		}
	}
	// At one position the first 64 terms are padding: 64 * pad and 448 * 63.
	m.Ops[0].Weights = slices.Repeat([]int16{1}, 1024)
	for _, x := range []struct{ pad, most int }{{63, 512}, {70, 512}, {71, 511}, {127, 455}, {-128, 512}} {
		m.Ops[0].Pad = x.pad
		expectMost(t, "long", m, 1, 2, span(63, 63), x.most, api.OK)
		holdChannel(t, "long", m, 1, 2, span(63, 63), 1, 2, 511, 512)
	}
}

// gaps counts depths that aren't safe below one that is.
func (r reading) gaps() int { return r.most() - len(r.safe()) }

// P18.2: rows of weights of which some depths are safe and lesser ones aren't.
func TestDepthsBetween(t *testing.T) {
	r := rand.New(rand.NewSource(185))
	gaps, none, first, all := 0, 0, 0, 0
	for range 3000 {
		weights := make([]int16, 1+r.Intn(14))
		most := anyOf(r, 60, 120, 200, 260, 330)
		for i := range weights {
			weights[i] = int16(r.Intn(2*most+1) - most)
		}
		m, s := row(int32(r.Intn(1000)), weights...), anyOf(r, span(-128, 127), span(100, 127), span(0, 127), span(-128, -110), anySpan(r))
		found := holdChannel(t, "between", m, 1, 1, s)
		switch {
		case found.gaps() > 0:
			gaps++
		case found.most() == 0:
			none++
		case found.most() == found.length:
			all++
		case found.most() == 1:
			first++
		}
	}
	if gaps < 100 || none < 100 || first < 100 || all < 100 {
		t.Errorf("%d with gaps, %d with none, %d with depth 1 alone, %d with all", gaps, none, first, all)
	}
}

// P18.1 to P18.3: random models, over random spans and such that are none.
func TestRandom(t *testing.T) {
	r := rand.New(rand.NewSource(186))
	widths, errors := map[int]int{}, map[api.Errno]int{}
	for range 2500 {
		m := anyModel(r, 4)
		op, ch := r.Intn(len(m.Ops)+2), r.Intn(6)
		if all := places(m); len(all) > 0 && r.Intn(5) > 0 {
			at := anyOf(r, all...)
			op, ch = at.op, at.ch
		}
		s := anySpan(r)
		if r.Intn(12) == 0 {
			s = anyOf(r, noneOfValues()...)
		}
		found := holdChannel(t, "random", m, op, ch, s)
		e := aheadOfAll(m, op, ch, s)
		if e == api.OK {
			var plan api.Chan
			plan, e = found.chosen()
			widths[plan.Width]++
		}
		errors[e]++
	}
	for _, e := range []api.Errno{api.ErrPlace, api.ErrKind, api.ErrSpan, api.ErrWide} {
		if errors[e] < 10 {
			t.Errorf("error %d came up %d times only", int(e), errors[e])
		}
	}
	if widths[16] < 200 || widths[32] < 100 {
		t.Errorf("plans of either width: %v", widths)
	}
}

// Rule 3: disturbed models: what layer 8 refuses is told, and the rest is held
// to the second reading.
func TestDisturbed(t *testing.T) {
	r := rand.New(rand.NewSource(187))
	refused := 0
	for range 3000 {
		m := anyModel(r, 3)
		at := anyOf(r, append(places(m), place{1, 1})...)
		disturb(r, &m)
		if aheadOfAll(m, at.op, at.ch, span(0, 1)) != api.OK {
			refused++
		}
		holdChannel(t, "disturbed", m, at.op, at.ch, anySpan(r))
	}
	if refused < 1000 || refused > 2800 {
		t.Errorf("%d were refused", refused)
	}
}

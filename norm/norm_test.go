package norm_test

import (
	"math"
	"math/rand"
	"slices"
	"testing"

	"spillway/api"
	"spillway/norm"
)

// expectSums holds L1 and Signed to the sums of the weights above 0 and below.
func expectSums(t *testing.T, name string, m api.Model, op, ch int, above, below int64, e api.Errno) {
	t.Helper()
	if a, b, err := norm.Signed(m, op, ch); a != above || b != below || err != e {
		t.Errorf("%s: Signed(%d, %d): %d %d %d; want %d %d %d", name, op, ch, a, b, int(err), above, below, int(e))
	}
	if n, err := norm.L1(m, op, ch); n != above-below || err != e {
		t.Errorf("%s: L1(%d, %d): %d %d; want %d %d", name, op, ch, n, int(err), above-below, int(e))
	}
}

func expectQuick(t *testing.T, name string, m api.Model, op, ch int, s, want api.Span, e api.Errno) {
	t.Helper()
	if got, err := norm.Quick(m, op, ch, s); got != want || err != e {
		t.Errorf("%s: Quick(%d, %d, %v): %v %d; want %v %d", name, op, ch, s, got, int(err), want, int(e))
	}
}

// expectError holds all three calls to it.
func expectError(t *testing.T, name string, m api.Model, op, ch int, s api.Span, e api.Errno) {
	t.Helper()
	expectSums(t, name, m, op, ch, 0, 0, e)
	expectQuick(t, name, m, op, ch, s, api.Span{}, e)
}

// P12.1, P12.2: the chapter's example.
func TestExample(t *testing.T) {
	m := denseExample()
	expectSums(t, "example", m, 1, 1, 3, -2, api.OK)
	expectQuick(t, "example", m, 1, 1, span(0, 10), span(-49, 51), api.OK)
	expectQuick(t, "example", m, 1, 1, span(-128, 127), span(-639, 641), api.OK)
	expectQuick(t, "example", m, 1, 1, span(5, 200), api.Span{}, api.ErrSpan)
}

// P12.1: weights above 0, below 0 and 0, at both their ends, of one sign and of
// both; a bias plays no part.
func TestSumsOfWeights(t *testing.T) {
	for _, c := range []struct {
		weights      []int16
		above, below int64
	}{
		{[]int16{0}, 0, 0}, {[]int16{0, 0, 0}, 0, 0}, {[]int16{1}, 1, 0}, {[]int16{-1}, 0, -1},
		{[]int16{5, 7, 9}, 21, 0}, {[]int16{-5, -7, -9}, 0, -21}, {[]int16{5, 0, 9}, 14, 0}, {[]int16{0, -7, 0}, 0, -7},
		{[]int16{1, -1}, 1, -1}, {[]int16{-6, 5, 0, 4, -3}, 9, -9}, {[]int16{2, -3, 4, -5, 6}, 12, -8},
		{[]int16{math.MinInt16}, 0, -32768}, {[]int16{math.MaxInt16}, 32767, 0},
		{[]int16{math.MinInt16, math.MaxInt16}, 32767, -32768}, {[]int16{math.MinInt16, math.MinInt16, math.MinInt16}, 0, -98304},
		{[]int16{math.MaxInt16, math.MaxInt16, math.MaxInt16}, 98301, 0},
		{slices.Repeat([]int16{math.MinInt16}, 512), 0, -16777216}, {slices.Repeat([]int16{math.MaxInt16}, 512), 16776704, 0},
		{slices.Repeat([]int16{math.MaxInt16, math.MinInt16}, 256), 8388352, -8388608},
	} {
		for _, bias := range []int32{0, 1, -1, math.MinInt32, math.MaxInt32} {
			expectSums(t, "row", row(bias, c.weights...), 1, 1, c.above, c.below, api.OK)
		}
	}
}

// P12.1: of each kind that reduces, channel by channel, by hand.
func TestSumsByHand(t *testing.T) {
	in := of(2, 2, 2)
	full := dense(in, 2)
	full.Weights = []int16{1, -2, 3, -4, 5, -6, 7, -8, 10, 20, 30, 40, -50, 0, 0, -1}
	wide := conv(in, 3, padded(kernel(2, 1, 1, 1), 1, 0, 0, 0))
	wide.Weights = []int16{1, 2, 3, 4, -1, -2, -3, -4, 100, -200, 300, -400}
	deep := depthwise(in, padded(kernel(1, 2, 1, 1), 0, 1, 0, 1))
	deep.Weights = []int16{-11, 12, 13, 14}
	m := star(in, full, wide, deep, average(kernel(2, 2, 1, 1)), average(kernel(1, 1, 1, 1)))
	for _, c := range []struct {
		op, ch       int
		above, below int64
	}{
		{1, 1, 16, -20}, {1, 2, 100, -51},
		{2, 1, 10, 0}, {2, 2, 0, -10}, {2, 3, 400, -600},
		{3, 1, 12, -11}, {3, 2, 27, 0},
		{4, 1, 4, 0}, {4, 2, 4, 0}, {5, 1, 1, 0}, {5, 2, 1, 0},
	} {
		expectSums(t, "by hand", m, c.op, c.ch, c.above, c.below, api.OK)
	}
}

// P12.2: over each of these spans the greater of its two ends, without its
// sign, counts; biases at both their ends.
func TestQuickOverSpans(t *testing.T) {
	for _, c := range []struct {
		s   api.Span
		far int64
	}{
		{span(0, 0), 0}, {span(1, 1), 1}, {span(-1, -1), 1}, {span(127, 127), 127}, {span(-128, -128), 128},
		{span(3, 9), 9}, {span(-9, -3), 9}, {span(0, 127), 127}, {span(-128, 0), 128}, {span(100, 127), 127}, {span(-128, -100), 128},
		{span(-5, 6), 6}, {span(-6, 5), 6}, {span(-7, 7), 7}, {span(-127, 127), 127}, {span(-128, 126), 128}, {span(-128, 127), 128},
	} {
		for _, bias := range []int32{0, 1, -1, 1000, math.MinInt32, math.MaxInt32} {
			b := int64(bias)
			expectQuick(t, "both signs", row(bias, 30, -20), 1, 1, c.s, span(b-50*c.far, b+50*c.far), api.OK)
			expectQuick(t, "above 0", row(bias, 2, 7), 1, 1, c.s, span(b-9*c.far, b+9*c.far), api.OK)
			expectQuick(t, "below 0", row(bias, -2, -7), 1, 1, c.s, span(b-9*c.far, b+9*c.far), api.OK)
			expectQuick(t, "weights of 0", row(bias, 0, 0), 1, 1, c.s, span(b, b), api.OK)
		}
	}
}

// P12.2: as far as the limits let it go: beyond int32 on either side.
func TestQuickAtTheLimits(t *testing.T) {
	m := farthest()
	all := span(-128, 127)
	expectQuick(t, "least weights", m, 1, 1, all, span(-1<<31-1<<31, 0), api.OK)
	expectQuick(t, "greatest weights", m, 1, 2, all, span(math.MaxInt32-16776704*128, math.MaxInt32+16776704*128), api.OK)
	m.Ops[0].Bias = []int32{math.MaxInt32, math.MinInt32}
	expectQuick(t, "least weights", m, 1, 1, all, span(-1, math.MaxInt32+1<<31), api.OK)
	expectQuick(t, "greatest weights", m, 1, 2, all, span(math.MinInt32-16776704*128, math.MinInt32+16776704*128), api.OK)
}

// P12.1, P12.2: an Average has weights of 1 and no bias, wherever it stands.
func TestAverage(t *testing.T) {
	in := of(4, 6, 3)
	for _, k := range [][2]int{{1, 1}, {1, 2}, {2, 1}, {2, 3}, {4, 6}} {
		n := int64(k[0] * k[1])
		op := average(kernel(k[0], k[1], 1, 1))
		behind := op
		behind.A = 1
		for ch := 1; ch <= 3; ch++ {
			for number, m := range map[int]api.Model{1: star(in, op), 2: star(in, clamp(), behind)} {
				expectSums(t, "average", m, number, ch, n, 0, api.OK)
				expectQuick(t, "average", m, number, ch, span(-3, 10), span(-10*n, 10*n), api.OK)
				expectQuick(t, "average", m, number, ch, span(-128, 127), span(-128*n, 128*n), api.OK)
			}
		}
	}
}

// sided are windows of 3 by 3 with padding at each side alone, at all, and at
// none.
func sided(do func(w api.Window, pads bool)) {
	k := kernel(3, 3, 1, 1)
	do(k, false)
	for _, n := range []int{1, 2} {
		do(padded(k, n, 0, 0, 0), true)
		do(padded(k, 0, n, 0, 0), true)
		do(padded(k, 0, 0, n, 0), true)
		do(padded(k, 0, 0, 0, n), true)
	}
	do(padded(k, 1, 1, 0, 0), true)
	do(padded(k, 0, 0, 2, 1), true)
	do(padded(k, 1, 2, 1, 2), true)
}

// P12.2: the padding counts where the window has some at a side, whichever, and
// where it has none, Pad plays no part.
func TestQuickWithPadding(t *testing.T) {
	in := of(4, 5, 2)
	sided(func(w api.Window, pads bool) {
		wide, deep := conv(in, 1, w), depthwise(in, w)
		wide.Weights = append(make([]int16, 16), 4, -6)
		deep.Weights = append(make([]int16, 16), 3, -7)
		wide.Bias, deep.Bias = []int32{1000}, []int32{1000, 1000}
		for _, c := range []struct {
			s           api.Span
			pad         int
			alone, with int64
		}{
			{span(-3, 8), 0, 8, 8}, {span(-3, 8), 5, 8, 8}, {span(-3, 8), -7, 8, 8}, {span(-3, 8), 8, 8, 8}, {span(-3, 8), -8, 8, 8},
			{span(-3, 8), 9, 8, 9}, {span(-3, 8), -9, 8, 9}, {span(-8, 3), 9, 8, 9}, {span(-8, 3), -9, 8, 9},
			{span(0, 0), 0, 0, 0}, {span(0, 0), 1, 0, 1}, {span(0, 0), -1, 0, 1}, {span(-2, -1), 127, 2, 127}, {span(1, 2), -128, 2, 128},
			{span(-127, 127), -128, 127, 128}, {span(0, 127), -128, 127, 128}, {span(-128, 0), 127, 128, 128}, {span(-128, 127), -128, 128, 128},
		} {
			wide.Pad, deep.Pad = c.pad, c.pad
			far := c.alone
			if pads {
				far = c.with
			}
			want := span(1000-10*far, 1000+10*far)
			m := star(in, wide, deep, dense(in, 1))
			expectQuick(t, "conv", m, 1, 1, c.s, want, api.OK)
			expectQuick(t, "depthwise", m, 2, 2, c.s, want, api.OK)
			expectQuick(t, "depthwise without weights", m, 2, 1, c.s, span(1000, 1000), api.OK)
		}
	})
}

// P12.2: the document asks Win's sides, not whether a position covers them:
// the steps here pass the padding by, and a weight of 0 meets it there.
func TestPaddingThatNothingCovers(t *testing.T) {
	in := of(3, 3, 1)
	for _, w := range []api.Window{padded(kernel(2, 2, 32, 32), 0, 0, 1, 0), padded(kernel(2, 2, 32, 32), 0, 0, 0, 1), padded(kernel(2, 2, 2, 1), 0, 0, 0, 1)} {
		op := conv(in, 1, w)
		op.Weights, op.Bias, op.Pad = []int16{1, 0, 2, 0}, []int32{0}, -100
		expectQuick(t, "not covered", star(in, op), 1, 1, span(-1, 4), span(-300, 300), api.OK)
	}
}

// some are numbers from first to last: all, or, if there are many, those near
// the ends and a few between.
func some(first, last int) []int {
	var list []int
	for n := first; n <= last; n++ {
		if n-first < 6 || last-n < 6 || n%97 == 0 {
			list = append(list, n)
		}
	}
	return list
}

// holdAgainstSecond goes through all ops of a model and through all, or some,
// of their channels, and one beyond each end.
func holdAgainstSecond(t *testing.T, name string, m api.Model, over []api.Span) {
	t.Helper()
	for op := 0; op <= len(m.Ops)+1; op++ {
		channels := 1
		if op > 0 && op <= len(m.Ops) {
			channels = channelsOf(m, op)
		}
		for _, ch := range some(0, channels+1) {
			holdChannel(t, name, m, op, ch, over)
		}
		if t.Failed() {
			t.Fatalf("%s: op %d: %+v", name, op, m)
		}
	}
}

func holdChannel(t *testing.T, name string, m api.Model, op, ch int, over []api.Span) {
	t.Helper()
	above, below, e := secondSigned(m, op, ch)
	expectSums(t, name, m, op, ch, above, below, e)
	sum, e := secondL1(m, op, ch)
	if n, err := norm.L1(m, op, ch); n != sum || err != e {
		t.Errorf("%s: L1(%d, %d): %d %d; want %d %d", name, op, ch, n, int(err), sum, int(e))
	}
	for _, s := range over {
		want, e := secondQuick(m, op, ch, s)
		expectQuick(t, name, m, op, ch, s, want, e)
	}
}

// P12.1, P12.2: channel by channel, over spans of values and others.
func TestAgainstSecondReading(t *testing.T) {
	for _, n := range allModels() {
		over := append(spans(), noSpans()...)
		if len(n.m.Ops) == api.MaxOps {
			over = over[:10]
		}
		holdAgainstSecond(t, n.name, n.m, over)
	}
}

func TestAgainstSecondReadingRandom(t *testing.T) {
	r := rand.New(rand.NewSource(12))
	kinds := map[int]int{}
	for range 3000 {
		m := anyModel(r, 6)
		for _, op := range m.Ops {
			kinds[op.Kind]++
		}
		holdAgainstSecond(t, "random", m, []api.Span{anySpan(r), anySpan(r), anySpan(r), span(r.Int63n(400)-200, r.Int63n(400)-200)})
	}
	for kind := range 8 {
		if kinds[kind+1] < 50 {
			t.Errorf("only %d ops of kind %d", kinds[kind+1], kind+1)
		}
	}
}

// P12.1, P12.2: only Weights, Bias, Win and Pad of the op, and the shapes, play
// a part: not its scale, Zero, Lo, Hi, the model's range, Out, what other ops
// are, nor, for the sums of weights, Bias, Pad or the padding.
func TestOtherFieldsPlayNoPart(t *testing.T) {
	in := of(4, 3, 2)
	s := span(-11, 20)
	for _, op := range oneOfEach()[:4] {
		m := star(in, op)
		want, _ := secondQuick(m, 1, 2, s)
		above, below, _ := secondSigned(m, 1, 2)
		other := op
		other.A, other.Lo, other.Hi = 1, 3, 3
		if op.Kind != api.Average {
			other.SA, other.Zero = api.Scale{Mult: math.MaxInt32, Shift: 62}, -128
		}
		wider := star(in, api.Op{Kind: api.Clamp, Lo: 7, Hi: 7}, other, rescale())
		wider.Lo, wider.Hi, wider.Out = -1, -1, 0
		expectQuick(t, "others", wider, 2, 2, s, want, api.OK)
		expectSums(t, "others", wider, 2, 2, above, below, api.OK)
		if op.Kind == api.Conv || op.Kind == api.Depthwise {
			wider.Ops[1].Pad, wider.Ops[1].Win = -128, kernel(op.Win.KH, op.Win.KW, 1, 1)
			wider.Ops[1].Bias = counted[int32](len(op.Bias), math.MaxInt32, -1)
			expectSums(t, "no padding", wider, 2, 2, above, below, api.OK)
		}
	}
}

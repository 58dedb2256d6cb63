package bound_test

import (
	"math"
	"math/rand"
	"slices"
	"testing"

	"spillway/api"
	"spillway/bound"
)

func expect(t *testing.T, name, call string, op, ch int, s, got api.Span, err api.Errno, want api.Span, e api.Errno) {
	t.Helper()
	if got != want || err != e {
		t.Errorf("%s: %s(%d, %d, %v): %v %d; want %v %d", name, call, op, ch, s, got, int(err), want, int(e))
	}
}

func expectTotal(t *testing.T, name string, m api.Model, op, ch int, s, want api.Span, e api.Errno) {
	t.Helper()
	got, err := bound.Total(m, op, ch, s)
	expect(t, name, "Total", op, ch, s, got, err, want, e)
}

func expectRun(t *testing.T, name string, m api.Model, op, ch int, s, want api.Span, e api.Errno) {
	t.Helper()
	got, err := bound.Run(m, op, ch, s)
	expect(t, name, "Run", op, ch, s, got, err, want, e)
}

func expectProduct(t *testing.T, name string, m api.Model, op, ch int, s, want api.Span, e api.Errno) {
	t.Helper()
	got, err := bound.Product(m, op, ch, s)
	expect(t, name, "Product", op, ch, s, got, err, want, e)
}

func expectPart(t *testing.T, name string, m api.Model, op, ch int, s api.Span, depth int, want api.Span, e api.Errno) {
	t.Helper()
	if got, err := bound.Part(m, op, ch, s, depth); got != want || err != e {
		t.Errorf("%s: Part(%d, %d, %v, %d): %v %d; want %v %d", name, op, ch, s, depth, got, int(err), want, int(e))
	}
}

// expectError holds all four calls to it.
func expectError(t *testing.T, name string, m api.Model, op, ch int, s api.Span, e api.Errno) {
	t.Helper()
	expectTotal(t, name, m, op, ch, s, api.Span{}, e)
	expectRun(t, name, m, op, ch, s, api.Span{}, e)
	expectProduct(t, name, m, op, ch, s, api.Span{}, e)
	for _, depth := range []int{0, 1, 3, -1, 513, math.MinInt, math.MaxInt} {
		expectPart(t, name, m, op, ch, s, depth, api.Span{}, e)
	}
}

// P13.1 to P13.4: the chapter's examples.
func TestExamples(t *testing.T) {
	m, s := denseExample(), span(0, 10)
	expectTotal(t, "1", m, 1, 1, s, span(-19, 31), api.OK)
	expectRun(t, "1", m, 1, 1, s, span(-19, 31), api.OK)
	expectProduct(t, "1", m, 1, 1, s, span(-20, 30), api.OK)
	expectPart(t, "1", m, 1, 1, s, 1, span(-20, 30), api.OK)
	expectPart(t, "1", m, 1, 1, s, 2, span(-20, 30), api.OK)
	expectPart(t, "1", m, 1, 1, s, 3, api.Span{}, api.ErrDepth)
	expectPart(t, "1", m, 1, 1, s, 0, api.Span{}, api.ErrDepth)
	expectPart(t, "1", row(0, -200, 300), 1, 1, span(100, 127), 2, span(-25400, 38100), api.OK)

	m, s = row(0, 1, 1), span(5, 7)
	expectTotal(t, "2", m, 1, 1, s, span(10, 14), api.OK)
	expectRun(t, "2", m, 1, 1, s, span(0, 14), api.OK)
	expectPart(t, "2", m, 1, 1, s, 2, span(5, 14), api.OK)
	expectProduct(t, "2", m, 1, 1, s, span(5, 7), api.OK)

	op := conv(of(1, 2, 1), 1, padded(kernel(1, 2, 1, 1), 0, 1, 0, 0))
	op.Weights, op.Bias, op.Pad = []int16{4, 1}, []int32{0}, -3
	m, s = star(of(1, 2, 1), op), span(0, 2)
	expectTotal(t, "3", m, 1, 1, s, span(-12, 10), api.OK)
	expectProduct(t, "3", m, 1, 1, s, span(-12, 8), api.OK)
}

// The examples of the whole that speak of sums: 2 to 5.
func TestExamplesOfTheWhole(t *testing.T) {
	all := span(-128, 127)
	expectRun(t, "3", row(0, 300, 1), 1, 1, all, span(-38528, 38227), api.OK)
	expectProduct(t, "3", row(0, 300, 1), 1, 1, all, span(-38400, 38100), api.OK)
	expectPart(t, "4", row(0, 200, 200), 1, 1, span(0, 127), 1, span(0, 25400), api.OK)
	expectPart(t, "4", row(0, 200, 200), 1, 1, span(0, 127), 2, span(0, 50800), api.OK)
	far := slices.Repeat([]int16{math.MinInt16}, 512)
	expectRun(t, "5", row(0, far...), 1, 1, all, span(-127*512*32768, 1<<31), api.OK)
	expectRun(t, "5", row(-1, far...), 1, 1, all, span(-127*512*32768-1, 1<<31-1), api.OK)
}

// byHand are rows of weights with a bias, and what the calls answer of them;
// parts are Part's answers with the depths from 1 to the length.
type byHand struct {
	bias               int32
	weights            []int16
	s                  api.Span
	total, run, single api.Span
	parts              []api.Span
}

func rowsByHand() []byHand {
	const least, most = math.MinInt16, math.MaxInt16
	return []byHand{
		// A weight of 0, alone and among others.
		{0, []int16{0}, span(-128, 127), span(0, 0), span(0, 0), span(0, 0), []api.Span{span(0, 0)}},
		{7, []int16{0}, span(3, 3), span(7, 7), span(7, 7), span(0, 0), []api.Span{span(0, 0)}},
		{7, []int16{0, 2}, span(3, 5), span(13, 17), span(7, 17), span(0, 10), []api.Span{span(0, 10), span(0, 10)}},
		// One weight of either sign, over spans of one number, on either side of 0 and across it.
		{5, []int16{4}, span(3, 3), span(17, 17), span(5, 17), span(12, 12), []api.Span{span(12, 12)}},
		{5, []int16{-4}, span(3, 3), span(-7, -7), span(-7, 5), span(-12, -12), []api.Span{span(-12, -12)}},
		{5, []int16{4}, span(-3, -2), span(-7, -3), span(-7, 5), span(-12, -8), []api.Span{span(-12, -8)}},
		{5, []int16{-4}, span(-3, -2), span(13, 17), span(5, 17), span(8, 12), []api.Span{span(8, 12)}},
		{5, []int16{4}, span(-3, 2), span(-7, 13), span(-7, 13), span(-12, 8), []api.Span{span(-12, 8)}},
		{5, []int16{-4}, span(-3, 2), span(-3, 17), span(-3, 17), span(-8, 12), []api.Span{span(-8, 12)}},
		// What goes up comes down again: a running sum lies farther out than any whole one.
		{0, []int16{10, -10}, span(6, 6), span(0, 0), span(0, 60), span(-60, 60), []api.Span{span(-60, 60), span(-60, 60)}},
		{0, []int16{10, -20, 10}, span(1, 2), span(-20, 20), span(-30, 20), span(-40, 20), []api.Span{span(-40, 20), span(-40, 20), span(-40, 20)}},
		{-1, []int16{5, 5, -9}, span(4, 4), span(3, 3), span(-1, 39), span(-36, 20), []api.Span{span(-36, 20), span(-36, 40), span(-36, 40)}},
		// The last block is shorter, and the blocks behind the first begin anew.
		{0, []int16{1, 2, 3, 4, 5}, span(1, 1), span(15, 15), span(0, 15), span(1, 5), []api.Span{span(1, 5), span(1, 7), span(1, 9), span(1, 10), span(1, 15)}},
		{100, []int16{-1, -2, -3, -4, -5}, span(1, 1), span(85, 85), span(85, 100), span(-5, -1), []api.Span{span(-5, -1), span(-7, -1), span(-9, -1), span(-10, -1), span(-15, -1)}},
		{0, []int16{9, -1, -8, 3, 3, 3}, span(1, 2), span(0, 27), span(-9, 27), span(-16, 18), []api.Span{span(-16, 18), span(-16, 18), span(-16, 18), span(-16, 18), span(-16, 21), span(-16, 27)}},
		// Weights and biases at both their ends.
		{math.MaxInt32, []int16{most}, span(-128, 127), span(math.MaxInt32-128*most, math.MaxInt32+127*most), span(math.MaxInt32-128*most, math.MaxInt32+127*most), span(-128*most, 127*most), []api.Span{span(-128*most, 127*most)}},
		{math.MinInt32, []int16{least}, span(-128, 127), span(math.MinInt32+127*least, math.MinInt32-128*least), span(math.MinInt32+127*least, math.MinInt32-128*least), span(127*least, -128*least), []api.Span{span(127*least, -128*least)}},
		{math.MinInt32, []int16{most, least}, span(127, 127), span(math.MinInt32-127, math.MinInt32-127), span(math.MinInt32-127, math.MinInt32+127*most), span(127*least, 127*most), []api.Span{span(127*least, 127*most), span(127*least, 127*most)}},
	}
}

// P13.1 to P13.4: by hand.
func TestByHand(t *testing.T) {
	for _, c := range rowsByHand() {
		m := row(c.bias, c.weights...)
		expectTotal(t, "by hand", m, 1, 1, c.s, c.total, api.OK)
		expectRun(t, "by hand", m, 1, 1, c.s, c.run, api.OK)
		expectProduct(t, "by hand", m, 1, 1, c.s, c.single, api.OK)
		for i, part := range c.parts {
			expectPart(t, "by hand", m, 1, 1, c.s, i+1, part, api.OK)
		}
		expectPart(t, "by hand", m, 1, 1, c.s, len(c.weights)+1, api.Span{}, api.ErrDepth)
	}
}

// P13.1 to P13.4: as far as the limits let them go: beyond int32 on either side.
func TestAtTheLimits(t *testing.T) {
	m, all := farthest(), span(-128, 127)
	const down, up = -127 * 512 * 32768, 1 << 31
	expectTotal(t, "least weights", m, 1, 1, all, span(math.MinInt32+down, math.MinInt32+up), api.OK)
	expectRun(t, "least weights", m, 1, 1, all, span(math.MinInt32+down, math.MinInt32+up), api.OK)
	expectPart(t, "least weights", m, 1, 1, all, 512, span(down, up), api.OK)
	expectPart(t, "least weights", m, 1, 1, all, 511, span(down+127*32768, up-128*32768), api.OK)
	expectProduct(t, "least weights", m, 1, 1, all, span(-127*32768, 128*32768), api.OK)
	expectTotal(t, "greatest weights", m, 1, 2, all, span(math.MaxInt32-128*512*32767, math.MaxInt32+127*512*32767), api.OK)
	expectRun(t, "greatest weights", m, 1, 2, span(127, 127), span(math.MaxInt32, math.MaxInt32+127*512*32767), api.OK)
	expectPart(t, "greatest weights", m, 1, 2, all, 2, span(-128*2*32767, 127*2*32767), api.OK)
}

// P13.1 to P13.4: an Average has weights of 1 and no bias, wherever it stands.
func TestAverage(t *testing.T) {
	in := of(4, 6, 3)
	for _, k := range [][2]int{{1, 1}, {1, 2}, {2, 1}, {2, 3}, {4, 6}} {
		n := k[0] * k[1]
		op := average(kernel(k[0], k[1], 1, 1))
		behind := op
		behind.A = 1
		for ch := 1; ch <= 3; ch++ {
			for number, m := range map[int]api.Model{1: star(in, op), 2: star(in, clamp(), behind)} {
				for _, s := range []api.Span{span(-3, 10), span(2, 5), span(-7, -4), span(-128, 127)} {
					times := func(n int) api.Span { return span(s.Lo*int64(n), s.Hi*int64(n)) }
					expectTotal(t, "average", m, number, ch, s, times(n), api.OK)
					expectRun(t, "average", m, number, ch, s, span(min(0, s.Lo*int64(n)), max(0, s.Hi*int64(n))), api.OK)
					expectProduct(t, "average", m, number, ch, s, s, api.OK)
					for depth := 1; depth <= n; depth++ {
						most := times(depth)
						expectPart(t, "average", m, number, ch, s, depth, span(min(s.Lo, most.Lo), max(s.Hi, most.Hi)), api.OK)
					}
					expectPart(t, "average", m, number, ch, s, n+1, api.Span{}, api.ErrDepth)
				}
			}
		}
	}
}

// some are numbers from first to last: all, or, if there are many, those near
// the ends and a few between.
func some(first, last int) []int {
	var list []int
	for n := first; n <= last; n++ {
		if n-first < 6 || last-n < 6 || n%97 == 0 {
			list = append(list, n)
		}
	}
	return list
}

// depthsOf a length: such that divide it and such that don't.
func depthsOf(length int) []int {
	if length <= 12 {
		return some(1, length)
	}
	list := []int{1, 2, 3, 5, 16, length / 3, length/2 - 1, length / 2, (length + 1) / 2, length - 1, length}
	return slices.DeleteFunc(list, func(k int) bool { return k > length })
}

// noDepths are none of an op of that length, some of them wide ones whose low
// bits would be one.
func noDepths(length int) []int {
	return append(far(), 0, length+1, length+2, 2*length+1, 513, 1<<32+length)
}

// holdAgainstSecond goes through all ops of a model and through all, or some,
// of their channels, and one beyond each end.
func holdAgainstSecond(t *testing.T, name string, m api.Model, over []api.Span) {
	t.Helper()
	for op := 0; op <= len(m.Ops)+1; op++ {
		channels := 1
		if op > 0 && op <= len(m.Ops) {
			channels = channelsOf(m, op)
		}
		for _, ch := range some(0, channels+1) {
			for _, s := range over {
				holdChannel(t, name, m, op, ch, s)
			}
		}
		if t.Failed() {
			t.Fatalf("%s: op %d: %+v", name, op, m)
		}
	}
}

func holdChannel(t *testing.T, name string, m api.Model, op, ch int, s api.Span) {
	t.Helper()
	if e := secondError(m, op, ch, s); e != api.OK {
		expectError(t, name, m, op, ch, s, e)
		return
	}
	depths := depthsOf(lengthOf(m, op))
	want := second(m, op, ch, s, depths)
	expectTotal(t, name, m, op, ch, s, want.total, api.OK)
	expectRun(t, name, m, op, ch, s, want.run, api.OK)
	expectProduct(t, name, m, op, ch, s, want.single, api.OK)
	for _, k := range depths {
		expectPart(t, name, m, op, ch, s, k, want.parts[k], api.OK)
	}
}

// isGreat: is it much work to go through the model?
func isGreat(m api.Model) bool {
	return len(m.Ops) == api.MaxOps || m.In.H*m.In.W*m.In.C > 100
}

// P13.1 to P13.4: channel by channel, over spans of values and others.
func TestAgainstSecondReading(t *testing.T) {
	for _, n := range allModels() {
		over := append(spans(), noSpans()...)
		if isGreat(n.m) {
			over = []api.Span{span(-128, 127), span(3, 9), span(5, 4)}
		}
		holdAgainstSecond(t, n.name, n.m, over)
	}
}

func TestAgainstSecondReadingRandom(t *testing.T) {
	r := rand.New(rand.NewSource(13))
	kinds := map[int]int{}
	for range 1500 {
		m := anyModel(r, 5)
		for _, op := range m.Ops {
			kinds[op.Kind]++
		}
		holdAgainstSecond(t, "random", m, []api.Span{anySpan(r), anySpan(r), span(r.Int63n(400)-200, r.Int63n(400)-200)})
	}
	for kind := range 8 {
		if kinds[kind+1] < 50 {
			t.Errorf("only %d ops of kind %d", kinds[kind+1], kind+1)
		}
	}
}

// P13.1 to P13.4: only Weights, Bias, Win and Pad of the op, and the shapes,
// play a part: not its scale, Zero, Lo, Hi, the model's range, Out, or what
// other ops are.
func TestOtherFieldsPlayNoPart(t *testing.T) {
	in := of(4, 3, 2)
	s := span(-11, 20)
	for _, op := range oneOfEach()[:4] {
		want := second(star(in, op), 1, 2, s, []int{2})
		other := op
		other.A, other.Lo, other.Hi = 1, 3, 3
		if op.Kind != api.Average {
			other.SA, other.Zero = api.Scale{Mult: math.MaxInt32, Shift: 62}, -128
		}
		wider := star(in, api.Op{Kind: api.Clamp, Lo: 7, Hi: 7}, other, rescale())
		wider.Lo, wider.Hi, wider.Out = -1, -1, 0
		expectTotal(t, "others", wider, 2, 2, s, want.total, api.OK)
		expectRun(t, "others", wider, 2, 2, s, want.run, api.OK)
		expectProduct(t, "others", wider, 2, 2, s, want.single, api.OK)
		expectPart(t, "others", wider, 2, 2, s, 2, want.parts[2], api.OK)
	}
}

package witness_test

import (
	"math"
	"math/rand"
	"slices"
	"testing"

	"spillway/api"
	"spillway/witness"
)

func expectLow(t *testing.T, name string, m api.Model, op, ch int, s api.Span, want api.Witness) {
	t.Helper()
	if w, e := witness.Low(m, op, ch, s); w.At != want.At || !slices.Equal(w.X, want.X) || e != api.OK {
		t.Errorf("%s: Low(%d, %d, %v): %v %d; want %v", name, op, ch, s, w, int(e), want)
	}
}

func expectHigh(t *testing.T, name string, m api.Model, op, ch int, s api.Span, want api.Witness) {
	t.Helper()
	if w, e := witness.High(m, op, ch, s); w.At != want.At || !slices.Equal(w.X, want.X) || e != api.OK {
		t.Errorf("%s: High(%d, %d, %v): %v %d; want %v", name, op, ch, s, w, int(e), want)
	}
}

// expectLeak holds Break to a leak of these terms at that position, the only
// ones that there are, and to numbers with which they are one.
func expectLeak(t *testing.T, name string, m api.Model, op, ch int, s api.Span, k int, want api.Leak) {
	t.Helper()
	r := read(m, op, ch, s)
	l, found := r.holdBreak(t, name, m, op, ch, k)
	if !found || l.At != want.At || l.From != want.From || l.Upto != want.Upto {
		t.Errorf("%s: Break(%d, %d, %v, %d): %v; want the terms %d to ahead of %d at %d", name, op, ch, s, k, l, want.From, want.Upto, want.At)
	}
	if want.X != nil && (!r.isLeak(want, k) || !slices.Equal(l.X, want.X)) {
		t.Errorf("%s: Break(%d, %d, %v, %d): %v; want %v", name, op, ch, s, k, l, want)
	}
}

// The chapter's examples.
func TestExamplesOfChapter(t *testing.T) {
	expectLow(t, "1", denseExample(), 1, 1, span(0, 10), api.Witness{X: []int8{0, 10}})
	expectHigh(t, "1", denseExample(), 1, 1, span(0, 10), api.Witness{X: []int8{10, 0}})
	expectNoLeak(t, "1", denseExample(), 1, 1, span(0, 10), 2, api.OK)

	expectLeak(t, "2", row(0, 200, 200), 1, 1, span(0, 127), 2, api.Leak{Upto: 2})
	expectLeak(t, "2", row(0, 300, 1), 1, 1, span(-128, 127), 1, api.Leak{Upto: 1})
	expectLeak(t, "2", row(0, -200, 300), 1, 1, span(100, 127), 2, api.Leak{From: 1, Upto: 2})
	for _, x := range []struct {
		m api.Model
		s api.Span
		k int
		l api.Leak
	}{
		{row(0, 200, 200), span(0, 127), 2, api.Leak{Upto: 2, X: []int8{127, 127}}},
		{row(0, 300, 1), span(-128, 127), 1, api.Leak{Upto: 1, X: []int8{127, 0}}},
		{row(0, 300, 1), span(-128, 127), 1, api.Leak{Upto: 1, X: []int8{-128, 127}}},
		{row(0, -200, 300), span(100, 127), 2, api.Leak{From: 1, Upto: 2, X: []int8{100, 127}}},
	} {
		if r := read(x.m, 1, 1, x.s); !r.isLeak(x.l, x.k) {
			t.Errorf("%v is a leak, and the second reading finds none", x.l)
		}
	}
}

// The document's examples 3 to 5 and 7: what a register of 16 bits bears.
func TestExamplesOfDocument(t *testing.T) {
	for k := 1; k <= 2; k++ {
		expectLeak(t, "3", row(0, 300, 1), 1, 1, span(-128, 127), k, api.Leak{Upto: 1})
	}
	expectNoLeak(t, "4", row(0, 200, 200), 1, 1, span(0, 127), 1, api.OK)
	expectLeak(t, "4, 7", row(0, 200, 200), 1, 1, span(0, 127), 2, api.Leak{Upto: 2})
	far := row(0, slices.Repeat([]int16{math.MinInt16}, 512)...)
	expectHigh(t, "5", far, 1, 1, span(-128, 127), api.Witness{X: slices.Repeat([]int8{-128}, 512)})
	expectLow(t, "5", far, 1, 1, span(-128, 127), api.Witness{X: slices.Repeat([]int8{127}, 512)})
	holdChannel(t, "5", far, 1, 1, span(-128, 127), 1, 2, 511, 512)
	if w, _ := witness.High(far, 1, 1, span(-128, 127)); read(far, 1, 1, span(-128, 127)).come(0, 0, 512, w.X) != 1<<31 {
		t.Errorf("5: %v doesn't come to 2^31", w)
	}
}

// P23.1: where there is one witness alone, it is that one: weights of both
// signs, at both ends of a span on either side of 0, across it and at its ends.
func TestOnlyWitness(t *testing.T) {
	for _, x := range []struct {
		weights   []int16
		s         api.Span
		low, high []int8
	}{
		{[]int16{1}, span(-128, 127), []int8{-128}, []int8{127}},
		{[]int16{-1}, span(-128, 127), []int8{127}, []int8{-128}},
		{[]int16{32767}, span(-128, 127), []int8{-128}, []int8{127}},
		{[]int16{-32768}, span(-128, 127), []int8{127}, []int8{-128}},
		{[]int16{2, -3}, span(5, 9), []int8{5, 9}, []int8{9, 5}},
		{[]int16{2, -3}, span(-9, -5), []int8{-9, -5}, []int8{-5, -9}},
		{[]int16{-2, 3, -4, 5}, span(-3, 4), []int8{4, -3, 4, -3}, []int8{-3, 4, -3, 4}},
		{[]int16{1, 1, 1}, span(0, 1), []int8{0, 0, 0}, []int8{1, 1, 1}},
		{[]int16{-1, -1, 1}, span(-1, 0), []int8{0, 0, -1}, []int8{-1, -1, 0}},
		{[]int16{7, -7}, span(6, 6), []int8{6, 6}, []int8{6, 6}},
		{[]int16{0, 0}, span(-128, -128), []int8{-128, -128}, []int8{-128, -128}},
		{[]int16{0, 5}, span(127, 127), []int8{127, 127}, []int8{127, 127}},
	} {
		for _, bias := range []int32{0, 9, math.MaxInt32, math.MinInt32} {
			expectLow(t, "the only one", row(bias, x.weights...), 1, 1, x.s, api.Witness{X: x.low})
			expectHigh(t, "the only one", row(bias, x.weights...), 1, 1, x.s, api.Witness{X: x.high})
		}
	}
}

// P23.1: the numbers under weights of 0 may be any of the span, all of them.
func TestWeightsOfZero(t *testing.T) {
	for _, weights := range [][]int16{{0}, {0, 0, 0}, {0, 1, 0}, {0, -300, 0, 0}, {300, 0, -1}} {
		for _, s := range spansOfValues() {
			holdChannel(t, "weights of 0", row(-7, weights...), 1, 1, s)
		}
	}
}

// byHand is a row of weights over a span, the depths of which some leave 16
// bits, and for each of them the only terms that do.
type byHand struct {
	name    string
	weights []int16
	s       api.Span
	depth   int
	from    int
	upto    int
}

// leaksByHand are over spans of one number, so that every sum comes to one
// number alone.
func leaksByHand() []byHand {
	const most, least = math.MaxInt16, math.MinInt16
	one, less := span(1, 1), span(-1, -1)
	return []byHand{
		{"one beyond the greatest", []int16{most, 1}, one, 2, 0, 2},
		{"one beyond the least", []int16{least, -1}, one, 2, 0, 2},
		{"one beyond the greatest, turned", []int16{-most, -1}, less, 2, 0, 2},
		{"two beyond the least, turned", []int16{most, 2}, less, 2, 0, 2},
		{"a product", []int16{least}, less, 1, 0, 1},
		{"the first product", []int16{least, 1, 1}, less, 3, 0, 1},
		{"a product in the middle", []int16{-1, least, -1}, less, 3, 1, 2},
		{"the last product", []int16{1, 1, least}, less, 3, 2, 3},
		{"a product with all sums within", []int16{1, least, 1}, less, 3, 1, 2},
		{"a product at the beginning of a block", []int16{1, 1, least, 1}, less, 2, 2, 3},
		{"a product at the end of a block", []int16{1, 1, 1, least}, less, 2, 3, 4},
		{"a product in a last block that is shorter", []int16{1, 1, 1, least}, less, 3, 3, 4},
		{"back at the end of its block, the first", []int16{20000, 20000, -20000, 1, 1, 1}, one, 3, 0, 2},
		{"back at the end of its block, in the middle", []int16{1, 1, 1, -20000, -20000, 20000, 1, 1, 1}, one, 3, 3, 5},
		{"back at the end of its block, the last", []int16{1, 1, 1, 20000, 20000, -20000}, one, 3, 3, 5},
		{"back at the end of a last block that is shorter", []int16{1, 1, 1, 1, 20000, 20000, -20000}, one, 4, 4, 6},
		{"at the end of the first block", []int16{10000, 10000, 20000, -1, -1, -1}, one, 3, 0, 3},
		{"at the end of the last block", []int16{1, 1, 1, 10000, 10000, 20000}, one, 3, 3, 6},
		{"at the end of a last block that is shorter", []int16{1, 1, 1, 20000, 20000}, one, 3, 3, 5},
		{"in the whole sum", []int16{10000, 10000, 10000, 2768}, one, 4, 0, 4},
		{"across blocks, and then not", []int16{20000, 20000, 20000, 20000, 1}, one, 1, 0, 0},
		{"across blocks of two", []int16{0, 20000, 20000, 0, 20000}, one, 2, 0, 0},
		{"at the greatest", []int16{most - 1, 1}, one, 2, 0, 0},
		{"at the least", []int16{least + 1, -1}, one, 2, 0, 0},
	}
}

// P23.2: by hand: where there are only these terms, it is they; where there are
// none, none are found.
func TestOnlyLeak(t *testing.T) {
	for _, x := range leaksByHand() {
		for _, bias := range []int32{0, 32767, math.MaxInt32, math.MinInt32} {
			m := row(bias, x.weights...)
			if x.upto == 0 {
				expectNoLeak(t, x.name, m, 1, 1, x.s, x.depth, api.OK)
				continue
			}
			x0 := slices.Repeat([]int8{int8(x.s.Lo)}, len(x.weights))
			expectLeak(t, x.name, m, 1, 1, x.s, x.depth, api.Leak{From: x.from, Upto: x.upto, X: x0})
		}
		holdChannel(t, x.name, row(0, x.weights...), 1, 1, x.s)
	}
}

// P23.2: a leak upwards alone, downwards alone, of weights of both signs: the
// numbers stand at the ends that drive it.
func TestLeaksOfBothSigns(t *testing.T) {
	for _, x := range []struct {
		weights []int16
		s       api.Span
		depth   int
		l       api.Leak
	}{
		// 256 * 127 is 32512, 256 * -128 is -32768: one more leaves at the least.
		{[]int16{256, 1}, span(-128, 127), 2, api.Leak{Upto: 2, X: []int8{-128, -128}}},
		{[]int16{256, -1}, span(-128, 127), 2, api.Leak{Upto: 2, X: []int8{-128, 127}}},
		{[]int16{-255, 2}, span(-128, 127), 2, api.Leak{Upto: 2, X: []int8{-128, 127}}},
		{[]int16{128, -128}, span(-128, 127), 2, api.Leak{}},
		{[]int16{128, -129}, span(-128, 127), 2, api.Leak{Upto: 2, X: []int8{127, -128}}},
		{[]int16{257}, span(-128, 127), 1, api.Leak{Upto: 1, X: []int8{-128}}},
		{[]int16{-256}, span(-128, 127), 1, api.Leak{Upto: 1, X: []int8{-128}}},
		{[]int16{258}, span(-127, 127), 1, api.Leak{}},
		{[]int16{0, 1, 256, 1}, span(-128, 127), 2, api.Leak{From: 2, Upto: 4, X: []int8{0, 0, -128, -128}}},
	} {
		m := row(5, x.weights...)
		if x.l.Upto == 0 {
			expectNoLeak(t, "both signs", m, 1, 1, x.s, x.depth, api.OK)
			continue
		}
		expectLeak(t, "both signs", m, 1, 1, x.s, x.depth, api.Leak{From: x.l.From, Upto: x.l.Upto})
		l, _, _ := witness.Break(m, 1, 1, x.s, x.depth)
		if !slices.Equal(l.X[l.From:l.Upto], x.l.X[l.From:l.Upto]) {
			t.Errorf("both signs: %v: the numbers are %v; want %v", x.weights, l.X, x.l.X)
		}
	}
}

// P23.2: the greatest product of all, and sums of it.
func TestGreatestProducts(t *testing.T) {
	for n := 1; n <= 512; n += 73 {
		m := row(math.MinInt32, slices.Repeat([]int16{math.MinInt16}, n)...)
		expectLeak(t, "-32768 by -128", m, 1, 1, span(-128, -128), n, api.Leak{Upto: 1, X: slices.Repeat([]int8{-128}, n)})
		for _, s := range list(span(-128, 127), span(-1, 0), span(-1, -1), span(0, 1), span(1, 1), span(0, 0), span(2, 2)) {
			holdChannel(t, "-32768", m, 1, 1, s, 1, n)
		}
	}
	expectLeak(t, "-32768 of a pad of -128", overPads(-32768, -128), 1, 1, span(0, 0), 1, api.Leak{Upto: 1, X: []int8{0}})
	expectNoLeak(t, "-32768 of a pad of 1", overPads(-32768, 1), 1, 1, span(0, 1), 1, api.OK)
}

// overPads is a Conv over one place: at position 0 it covers a pad, then the
// place; at position 1 the place, then a pad.
func overPads(weight int16, pad int) api.Model {
	op := conv(of(1, 1, 1), 1, padded(kernel(1, 2, 1, 1), 0, 1, 0, 1))
	op.Weights, op.Bias, op.Pad = []int16{weight, 0}, []int32{3}, pad
	return star(of(1, 1, 1), op)
}

// P23.1, P23.2: only one position reaches an end, or breaks a register: the
// first one, one between, the last one, by its padding or by having none.
func TestOnlyPosition(t *testing.T) {
	in := of(1, 3, 1)
	// Positions 0 to 4 cover, from the left: P P 0, P 0 1, 0 1 2, 1 2 P, 2 P P.
	op := conv(in, 1, padded(kernel(1, 3, 1, 1), 0, 2, 0, 2))
	op.Bias = []int32{1000}
	for _, x := range []struct {
		weights   []int16
		pad       int
		s         api.Span
		low, high int
	}{
		{[]int16{1, 2, 4}, 100, span(1, 1), 2, 4},
		{[]int16{4, 2, 1}, 100, span(1, 1), 2, 0},
		{[]int16{1, 2, 4}, -100, span(1, 1), 4, 2},
		{[]int16{4, 2, 1}, -100, span(1, 1), 0, 2},
		{[]int16{-1, 10, -2}, 100, span(0, 1), 3, 0},
		{[]int16{9, -10, 1}, 50, span(-1, 1), 4, 1},
		{[]int16{1, -10, 9}, 50, span(-1, 1), 0, 3},
		{[]int16{3, 3, 3}, 2, span(0, 9), 2, 2},
	} {
		op.Weights, op.Pad = x.weights, x.pad
		m := star(in, op)
		holdChannel(t, "positions", m, 1, 1, x.s)
		r := read(m, 1, 1, x.s)
		low, _ := witness.Low(m, 1, 1, x.s)
		high, _ := witness.High(m, 1, 1, x.s)
		if low.At != x.low || high.At != x.high {
			t.Errorf("weights %v, pad %d, %v: Low at %d, High at %d; want %d, %d: %v", x.weights, x.pad, x.s, low.At, high.At, x.low, x.high, r.rows)
		}
	}
}

// P23.2: only one position breaks a register: each of five.
func TestOnlyPositionThatLeaks(t *testing.T) {
	in := of(1, 3, 1)
	// Positions 0 to 4 cover, from the left: P P 0, P 0 1, 0 1 2, 1 2 P, 2 P P.
	op := conv(in, 1, padded(kernel(1, 3, 1, 1), 0, 2, 0, 2))
	for _, x := range []struct {
		weights []int16
		pad     int
		s       api.Span
		depth   int
		l       api.Leak
	}{
		{[]int16{170, 170, 1}, 100, span(0, 0), 2, api.Leak{At: 0, Upto: 2}},
		{[]int16{170, 170, 1}, 100, span(0, 0), 3, api.Leak{At: 0, Upto: 2}},
		{[]int16{-125, 110, 110}, -90, span(100, 100), 3, api.Leak{At: 1, Upto: 3}},
		{[]int16{110, 110, 110}, 0, span(0, 100), 3, api.Leak{At: 2, Upto: 3}},
		{[]int16{110, 110, -125}, -90, span(100, 100), 3, api.Leak{At: 3, Upto: 3}},
		{[]int16{1, 170, 170}, 100, span(0, 0), 3, api.Leak{At: 4, Upto: 3}},
		{[]int16{1, 170, 170}, 100, span(0, 0), 2, api.Leak{}},
		{[]int16{170, 1, 170}, -100, span(0, 0), 3, api.Leak{}},
		{[]int16{0, 0, 258}, 127, span(0, 127), 3, api.Leak{}},
	} {
		op.Weights, op.Pad = x.weights, x.pad
		m := star(in, op)
		holdChannel(t, "positions", m, 1, 1, x.s)
		if x.l.Upto == 0 {
			expectNoLeak(t, "no position", m, 1, 1, x.s, x.depth, api.OK)
			continue
		}
		expectLeak(t, "one position", m, 1, 1, x.s, x.depth, x.l)
		if all := positionsThatLeak(m, x.s, x.depth); !slices.Equal(all, []int{x.l.At}) {
			t.Errorf("weights %v, pad %d, %v: %v leak; want %d alone", x.weights, x.pad, x.s, all, x.l.At)
		}
	}
}

// positionsThatLeak are those at which a block's partial sum leaves 16 bits, or
// a product.
func positionsThatLeak(m api.Model, s api.Span, depth int) []int {
	var all []int
	r := read(m, 1, 1, s)
	for at := range r.rows {
		alone := r
		alone.rows = r.rows[at : at+1]
		if !alone.isSafe(depth) {
			all = append(all, at)
		}
	}
	return all
}

// P23.1, P23.2: ops of every kind, first in their model and behind others,
// against the second reading, over all sorts of spans, with every depth.
func TestModels(t *testing.T) {
	for _, n := range smallModels() {
		for _, at := range places(n.m) {
			for _, s := range spansOfValues() {
				holdChannel(t, n.name, n.m, at.op, at.ch, s)
			}
		}
	}
}

// P23.2: the same with greater weights.
func TestSteepModels(t *testing.T) {
	var all tally
	for _, n := range smallModels() {
		for _, by := range []int16{2, -3, 5, 40} {
			m := steeper(n.m, by)
			for _, at := range some(places(m), 9) {
				for _, s := range list(span(-128, 127), span(100, 127), span(-128, -90), span(0, 64), span(9, 9)) {
					all.join(holdChannel(t, n.name, m, at.op, at.ch, s))
				}
			}
		}
	}
	if all.whole < 1000 || all.single < 1000 || all.block < 1000 || all.shorter < 100 {
		t.Errorf("what Break answered: %+v", all)
	}
}

// P23.1, P23.2: a plane of two places with padding at one side, or at both, the
// pad within the span, at its ends and outside it.
func TestPadding(t *testing.T) {
	var all tally
	for _, pad := range []int{-128, -9, -4, -3, -1, 0, 1, 2, 6, 7, 8, 127} {
		for _, upright := range []bool{false, true} {
			in, k := of(1, 2, 1), kernel(1, 2, 1, 1)
			windows := []api.Window{k, padded(k, 0, 1, 0, 0), padded(k, 0, 0, 0, 1), padded(k, 0, 1, 0, 1)}
			if upright {
				in, k = of(2, 1, 1), kernel(2, 1, 1, 1)
				windows = []api.Window{k, padded(k, 1, 0, 0, 0), padded(k, 0, 0, 1, 0), padded(k, 1, 0, 1, 0)}
			}
			for _, w := range windows {
				wide, deep := conv(in, 1, w), depthwise(in, w)
				wide.Weights, wide.Bias, wide.Pad = []int16{250, -200}, []int32{1000}, pad
				deep.Weights, deep.Bias, deep.Pad = []int16{300, 7}, []int32{-5}, pad
				m := star(in, wide, deep)
				for _, s := range list(span(-3, 7), span(1, 7), span(-9, -4), span(0, 0), span(-128, 127), span(100, 127)) {
					all.join(holdChannel(t, "padding", m, 1, 1, s))
					all.join(holdChannel(t, "padding", m, 2, 1, s))
				}
			}
		}
	}
	if all.whole < 100 || all.single < 100 || all.block < 30 {
		t.Errorf("what Break answered: %+v", all)
	}
}

// P23.1, P23.2: positions of nothing but padding but for one tap, and such that
// the window covers padding alone.
func TestMostlyPadding(t *testing.T) {
	for _, n := range []named{
		{"all but one", star(of(1, 1, 2), depthwise(of(1, 1, 2), padded(kernel(2, 2, 1, 1), 1, 1, 1, 1)))},
		{"great windows", star(of(1, 1, 1), conv(of(1, 1, 1), 2, padded(kernel(3, 4, 1, 1), 2, 3, 2, 3)))},
		{"steps past the padding", star(of(3, 3, 1), conv(of(3, 3, 1), 1, padded(kernel(2, 2, 32, 32), 0, 0, 1, 1)))},
		{"steps past the plane", star(of(2, 9, 1), depthwise(of(2, 9, 1), padded(kernel(3, 3, 2, 4), 2, 2, 2, 2)))},
	} {
		for _, by := range []int16{1, 30, -200} {
			m := steeper(n.m, by)
			for _, at := range places(m) {
				for _, s := range spansOfValues() {
					holdChannel(t, n.name, m, at.op, at.ch, s)
				}
			}
		}
	}
}

// P23.1, P23.2: the greatest windows, of 512 terms, and long sums: with padding
// at some positions and without.
func TestLongSums(t *testing.T) {
	through, plane := of(8, 8, 8), of(32, 16, 2)
	models := []api.Model{
		star(through, conv(through, 2, padded(kernel(8, 8, 1, 1), 1, 0, 0, 0)), conv(through, 8, kernel(1, 8, 1, 1)), dense(through, 2)),
		star(plane, depthwise(plane, padded(kernel(32, 16, 1, 1), 0, 1, 0, 0)), average(kernel(32, 16, 1, 1)), depthwise(plane, kernel(16, 16, 1, 1))),
	}
	var all tally
	for _, m := range models {
		for _, by := range []int16{1, 11} {
			m := steeper(m, by)
			for _, at := range some(places(m), 6) {
				for _, s := range list(span(-128, 127), span(-3, 2), span(100, 101), span(127, 127)) {
					all.join(holdChannel(t, "long", m, at.op, at.ch, s, 1, 2, 3, 64, 100, 255, 256, 257, 511, 512))
				}
			}
		}
	}
	if all.whole < 20 || all.single < 20 || all.block < 20 {
		t.Errorf("what Break answered: %+v", all)
	}
}

// P23.1, P23.2: models at the limits.
func TestGreatModels(t *testing.T) {
	for _, n := range greatModels() {
		for _, at := range some(places(n.m), 3) {
			for _, s := range list(span(-128, 127), span(90, 127)) {
				r := read(n.m, at.op, at.ch, s)
				holdChannel(t, n.name, n.m, at.op, at.ch, s, some(upTo(r.length), 5)...)
			}
		}
	}
}

// P23.1, P23.2: planes of 127 times 127 and of 126 times 126 positions, of which
// the last one alone has padding at two sides.
func TestManyPositions(t *testing.T) {
	in := of(128, 128, 1)
	op := conv(in, 1, kernel(2, 2, 1, 1))
	op.Weights, op.Bias = []int16{200, 100, -250, 200}, []int32{5}
	holdChannel(t, "many positions", star(in, op), 1, 1, span(100, 127))
	holdChannel(t, "many positions", star(in, op), 1, 1, span(-128, 127))
	in = of(126, 126, 1)
	corner := conv(in, 1, padded(kernel(2, 2, 1, 1), 0, 0, 1, 1))
	corner.Weights, corner.Bias, corner.Pad = []int16{1, 50, 40, 200}, []int32{5}, 127
	m, last := star(in, corner), 126*126-1
	holdChannel(t, "the last position", m, 1, 1, span(0, 1))
	expectLeak(t, "the last position", m, 1, 1, span(0, 1), 4, api.Leak{At: last, Upto: 4})
	if w, _ := witness.High(m, 1, 1, span(0, 1)); w.At != last {
		t.Errorf("High is at %d; want %d", w.At, last)
	}
}

// P23.1, P23.2: random models, over random spans and such that are none.
func TestRandom(t *testing.T) {
	r := rand.New(rand.NewSource(231))
	var all tally
	var kinds [9]int
	errors := map[api.Errno]int{}
	for range 4000 {
		m := anyModel(r, 4)
		op, ch := r.Intn(len(m.Ops)+2), r.Intn(6)
		if few := places(m); len(few) > 0 && r.Intn(5) > 0 {
			at := anyOf(r, few...)
			op, ch = at.op, at.ch
		}
		s := anySpan(r)
		if r.Intn(12) == 0 {
			s = anyOf(r, noneOfValues()...)
		}
		all.join(holdChannel(t, "random", m, op, ch, s))
		e := aheadOfAll(m, op, ch, s)
		if e == api.OK {
			kinds[m.Ops[op-1].Kind]++
		}
		errors[e]++
	}
	for _, e := range []api.Errno{api.ErrPlace, api.ErrKind, api.ErrSpan} {
		if errors[e] < 10 {
			t.Errorf("error %d came up %d times only", int(e), errors[e])
		}
	}
	for kind := api.Dense; kind <= api.Average; kind++ {
		if kinds[kind] < 100 {
			t.Errorf("kind %d: only %d ops", kind, kinds[kind])
		}
	}
	if all.whole < 500 || all.single < 500 || all.block < 300 || all.shorter < 50 {
		t.Errorf("what Break answered: %+v", all)
	}
}

// P23.2: rows of weights that come and go.
func TestRandomRows(t *testing.T) {
	r := rand.New(rand.NewSource(232))
	var all tally
	for range 3000 {
		weights := make([]int16, 1+r.Intn(14))
		most := anyOf(r, 60, 120, 200, 260, 330)
		for i := range weights {
			weights[i] = int16(r.Intn(2*most+1) - most)
		}
		s := anyOf(r, span(-128, 127), span(100, 127), span(0, 127), span(-128, -110), anySpan(r))
		all.join(holdChannel(t, "rows", row(int32(r.Intn(1000)), weights...), 1, 1, s))
	}
	if all.whole < 1000 || all.single < 1000 || all.block < 1000 || all.shorter < 300 {
		t.Errorf("what Break answered: %+v", all)
	}
}

// Rule 3: disturbed models: what layer 8 refuses is told, and the rest is held
// to the second reading.
func TestDisturbed(t *testing.T) {
	r := rand.New(rand.NewSource(233))
	refused := 0
	for range 3000 {
		m := anyModel(r, 3)
		at := anyOf(r, append(places(m), place{1, 1})...)
		disturb(r, &m)
		if aheadOfAll(m, at.op, at.ch, span(0, 1)) != api.OK {
			refused++
		}
		holdChannel(t, "disturbed", m, at.op, at.ch, anySpan(r))
	}
	if refused < 1000 || refused > 2800 {
		t.Errorf("%d were refused", refused)
	}
}

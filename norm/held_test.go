package norm_test

import (
	"math/rand"
	"slices"
	"testing"

	"spillway/api"
	"spillway/model"
	"spillway/norm"
	"spillway/plain"
)

func placesOf(s api.Shape) int { return s.H * s.W * s.C }

// numbersOf are so many of the span, both its ends among the likely ones.
func numbersOf(r *rand.Rand, n int, s api.Span) []int8 {
	list := make([]int8, n)
	for i := range list {
		between := s.Lo + r.Int63n(s.Hi-s.Lo+1)
		list[i] = int8(anyOf(r, s.Lo, s.Hi, between))
	}
	return list
}

// worst are the numbers of the span that bring the sum of a channel at its
// first position furthest up, or furthest down: padding aside, each tensor's
// place is at that end to which its weight's sign drives it.
func worst(m api.Model, op, ch, n int, s api.Span, up bool) []int8 {
	list := slices.Repeat([]int8{int8(s.Lo)}, n)
	base, _ := plain.Totals(m, op, list)
	for place := range list {
		list[place] = int8(s.Hi)
		moved, _ := plain.Totals(m, op, list)
		if (moved[ch-1] > base[ch-1]) != up {
			list[place] = int8(s.Lo)
			continue
		}
		base = moved
	}
	return list
}

// lists are numbers of the span for an op's tensor A: all at one end, at both
// in turn, and any.
func lists(r *rand.Rand, n int, s api.Span) [][]int8 {
	lo, hi := int8(s.Lo), int8(s.Hi)
	turns := slices.Repeat([]int8{lo, hi}, n)
	return [][]int8{slices.Repeat([]int8{lo}, n), slices.Repeat([]int8{hi}, n), turns[:n], turns[1 : n+1], numbersOf(r, n, s), numbersOf(r, n, s)}
}

// holdSums holds each sum over the list within Quick of its channel.
func holdSums(t *testing.T, name string, m api.Model, op int, a []int8, s api.Span) {
	t.Helper()
	totals, e := plain.Totals(m, op, a)
	if e != api.OK {
		t.Fatalf("%s: op %d: no totals: %d", name, op, int(e))
	}
	channels := channelsOf(m, op)
	quick := make([]api.Span, channels)
	for ch := range quick {
		quick[ch], _ = norm.Quick(m, op, ch+1, s)
	}
	for i, total := range totals {
		if q := quick[i%channels]; total < q.Lo || total > q.Hi {
			t.Fatalf("%s: op %d: channel %d's sum at the position %d, over numbers of %v, is %d: not in %v", name, op, i%channels+1, i/channels, s, total, q)
		}
	}
}

// P12.3: sums over numbers of the span are held, of every op that reduces, in
// every channel and position.
func TestSumsAreHeld(t *testing.T) {
	r := rand.New(rand.NewSource(123))
	for _, n := range allModels() {
		shapes, _ := model.Shapes(n.m)
		over := spans()
		if len(n.m.Ops) == api.MaxOps || placesOf(n.m.In) > 100 {
			over = []api.Span{span(-128, 127), span(0, 0), span(-3, -3), anySpan(r)}
		}
		for i, op := range n.m.Ops {
			if !model.Reduces(op.Kind) {
				continue
			}
			for _, s := range over {
				for _, a := range lists(r, placesOf(shapes[op.A]), s) {
					holdSums(t, n.name, n.m, i+1, a, s)
				}
			}
		}
	}
}

func TestSumsAreHeldRandom(t *testing.T) {
	r := rand.New(rand.NewSource(124))
	for range 2500 {
		m := anyModel(r, 5)
		shapes, _ := model.Shapes(m)
		for i, op := range m.Ops {
			if !model.Reduces(op.Kind) {
				continue
			}
			s := anySpan(r)
			for _, a := range lists(r, placesOf(shapes[op.A]), s) {
				holdSums(t, "random", m, i+1, a, s)
			}
		}
	}
}

// P12.3: the sums that lie furthest out are held, too.
func TestFurthestSumsAreHeld(t *testing.T) {
	in := of(4, 3, 2)
	for _, op := range oneOfEach()[:4] {
		m := star(in, op)
		for ch := 1; ch <= channelsOf(m, 1); ch++ {
			for _, s := range spans() {
				holdSums(t, "up", m, 1, worst(m, 1, ch, 24, s, true), s)
				holdSums(t, "down", m, 1, worst(m, 1, ch, 24, s, false), s)
			}
		}
	}
}

// P12.2, P12.3: over a span that is as wide on either side of 0, and without
// padding, both ends are sums: nothing narrower would hold them.
func TestEndsAreReached(t *testing.T) {
	in := of(4, 3, 2)
	for _, op := range []api.Op{dense(in, 3), conv(in, 3, kernel(3, 2, 1, 1)), depthwise(in, kernel(2, 2, 1, 1)), average(kernel(2, 2, 1, 1))} {
		m := star(in, op)
		for ch := 1; ch <= channelsOf(m, 1); ch++ {
			for _, far := range []int64{0, 1, 6, 127} {
				s := span(-far, far)
				q, _ := norm.Quick(m, 1, ch, s)
				top, _ := plain.Totals(m, 1, worst(m, 1, ch, 24, s, true))
				bottom, _ := plain.Totals(m, 1, worst(m, 1, ch, 24, s, false))
				if top[ch-1] != q.Hi || bottom[ch-1] != q.Lo {
					t.Errorf("kind %d, channel %d, %v: sums go from %d to %d, Quick is %v", op.Kind, ch, s, bottom[ch-1], top[ch-1], q)
				}
			}
		}
	}
}

// P12.3: a sum of nothing but padding is held, beyond what the span alone says.
func TestSumsOfPaddingAreHeld(t *testing.T) {
	in := of(1, 1, 1)
	for _, w := range []api.Window{padded(kernel(2, 1, 1, 1), 1, 0, 0, 0), padded(kernel(1, 2, 1, 1), 0, 1, 0, 0), padded(kernel(2, 1, 1, 1), 0, 0, 1, 0), padded(kernel(1, 2, 1, 1), 0, 0, 0, 1)} {
		for _, pad := range []int{-128, -1, 0, 1, 127} {
			for _, weights := range [][]int16{{50, 0}, {0, 50}, {-50, 0}, {0, -50}, {50, -50}} {
				op := depthwise(in, w)
				op.Weights, op.Pad = weights, pad
				for _, s := range []api.Span{span(0, 0), span(-2, -1), span(1, 2), span(-128, 127)} {
					holdSums(t, "padding", star(in, op), 1, []int8{int8(s.Lo)}, s)
					holdSums(t, "padding", star(in, op), 1, []int8{int8(s.Hi)}, s)
				}
			}
		}
	}
}

// P12.3: L1 is Signed's first less its second; the first is 0 or more, the
// second 0 or less.
func TestL1IsSignedTaken(t *testing.T) {
	r := rand.New(rand.NewSource(125))
	all := allModels()
	for range 2000 {
		all = append(all, named{"random", anyModel(r, 5)})
	}
	for _, n := range all {
		for op := 1; op <= len(n.m.Ops); op++ {
			for _, ch := range some(1, channelsOf(n.m, op)) {
				sum, e := norm.L1(n.m, op, ch)
				above, below, err := norm.Signed(n.m, op, ch)
				if e != err || sum != above-below || above < 0 || below > 0 {
					t.Fatalf("%s: op %d, channel %d: L1 %d %d, Signed %d %d %d", n.name, op, ch, sum, int(e), above, below, int(err))
				}
			}
		}
	}
}

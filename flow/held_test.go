package flow_test

import (
	"math/rand"
	"slices"
	"testing"

	"spillway/api"
	"spillway/flow"
	"spillway/model"
	"spillway/plain"
)

func placesOf(s api.Shape) int { return s.H * s.W * s.C }

// holds: does one span hold the other?
func holds(a, b api.Span) bool { return b.Lo <= b.Hi && a.Lo <= b.Lo && b.Hi <= a.Hi }

// numbersOf are so many of the span, both its ends among the likely ones.
func numbersOf(r *rand.Rand, n int, s api.Span) []int8 {
	list := make([]int8, n)
	for i := range list {
		between := s.Lo + r.Int63n(s.Hi-s.Lo+1)
		list[i] = int8(anyOf(r, s.Lo, s.Hi, between))
	}
	return list
}

// inputs are numbers of the declared range: all at one end, at both in turn,
// all at one number within, and any.
func inputs(r *rand.Rand, m api.Model) [][]int8 {
	n, s := placesOf(m.In), span(int64(m.Lo), int64(m.Hi))
	lo, hi := int8(m.Lo), int8(m.Hi)
	turns := slices.Repeat([]int8{lo, hi}, n)
	within := int8((m.Lo + m.Hi) / 2)
	return [][]int8{
		slices.Repeat([]int8{lo}, n), slices.Repeat([]int8{hi}, n), turns[:n], turns[1 : n+1],
		slices.Repeat([]int8{within}, n), numbersOf(r, n, s), numbersOf(r, n, s),
	}
}

// seenIn is the hull of a tensor's numbers.
func seenIn(tensor []int8) api.Span {
	g := none()
	for _, n := range tensor {
		g.take(int64(n))
	}
	return api.Span(g)
}

// holdTensors holds every number of every tensor, whichever of the inputs it is
// made of, in Spread's span for it.
func holdTensors(t *testing.T, name string, m api.Model, inputs ...[]int8) {
	t.Helper()
	spread, f := flow.Spread(m)
	for _, x := range inputs {
		tensors, fault := plain.Tensors(m, x)
		if f != (api.Fault{}) || fault != (api.Fault{}) || len(spread) != len(tensors) {
			t.Fatalf("%s: %v, %v; %d spans, %d tensors", name, f, fault, len(spread), len(tensors))
		}
		for n, tensor := range tensors {
			if seen := seenIn(tensor); !holds(spread[n], seen) {
				t.Fatalf("%s: tensor %d: %v isn't held by %v\n%+v", name, n, seen, spread[n], m)
			}
		}
	}
}

// P14.3: at the ends of the declared range and within it.
func TestTensorsAreHeld(t *testing.T) {
	r := rand.New(rand.NewSource(144))
	for _, n := range allModels() {
		declared := append(spans(), span(int64(n.m.Lo), int64(n.m.Hi)))
		if isGreat(n.m) {
			declared = list(span(-128, 127), span(3, 9))
		}
		for _, s := range declared {
			m := declaring(int(s.Lo), int(s.Hi), n.m)
			holdTensors(t, n.name, m, inputs(r, m)...)
		}
	}
}

func TestTensorsAreHeldRandom(t *testing.T) {
	r := rand.New(rand.NewSource(145))
	for range 2500 {
		m := anyModel(r, 6)
		holdTensors(t, "random", m, inputs(r, m)...)
	}
}

// P14.3: an Average's mean that lies on a half, on either side of zero: it is
// rounded away from zero, and yet no further than the span goes.
func TestMeansThatRound(t *testing.T) {
	for _, c := range []struct {
		lo, hi int
		x      []int8
		want   int8
	}{
		{1, 2, []int8{1, 2, 2, 1}, 2}, {-2, -1, []int8{-1, -2, -2, -1}, -2}, {0, 1, []int8{1, 1, 0, 0}, 1}, {-1, 0, []int8{0, -1, 0, -1}, -1},
		{1, 2, []int8{1, 2, 2, 2}, 2}, {-2, -1, []int8{-1, -1, -1, -2}, -1}, {126, 127, []int8{126, 127, 126, 127}, 127}, {-128, -127, []int8{-127, -128, -127, -128}, -128},
	} {
		m := declaring(c.lo, c.hi, star(of(2, 2, 1), widest(average(kernel(2, 2, 1, 1)))))
		if got, f := plain.Eval(m, c.x); !slices.Equal(got, []int8{c.want}) || f != (api.Fault{}) {
			t.Errorf("%v: %v %v; want %d", c.x, got, f, c.want)
		}
		both := span(int64(c.lo), int64(c.hi))
		expectSpread(t, "means", m, list(both, both), api.Fault{})
		holdTensors(t, "means", m, c.x)
	}
}

// everyList goes through all lists of so many numbers of the span.
func everyList(n int, s api.Span, do func([]int8)) {
	list := slices.Repeat([]int8{int8(s.Lo)}, n)
	for {
		do(list)
		i := 0
		for i < n && int64(list[i]) == s.Hi {
			list[i] = int8(s.Lo)
			i++
		}
		if i == n {
			return
		}
		list[i]++
	}
}

// P14.1 to P14.3: of one op over all inputs that there are: nothing that it
// makes lies outside the span that comes of it, and both its ends are made.
func TestOverAllInputs(t *testing.T) {
	r := rand.New(rand.NewSource(146))
	var kinds [9]int
	for range 6000 {
		in := anyOf(r, of(1, 1, 1), of(1, 2, 1), of(2, 1, 1), of(1, 1, 3), of(1, 3, 1), of(2, 2, 1), of(1, 2, 2), of(4, 1, 1))
		lo := anyOf(r, -128, -3, -2, -1, 0, 1, 125, anyValue(r))
		m := declaring(lo, min(127, lo+r.Intn(3)), star(in, anyOp(r, []api.Shape{in})))
		if model.Check(m) != (api.Fault{}) {
			continue
		}
		kinds[m.Ops[0].Kind]++
		made := none()
		s := span(int64(m.Lo), int64(m.Hi))
		everyList(placesOf(in), s, func(x []int8) {
			tensors, _ := plain.Tensors(m, x)
			seen := seenIn(tensors[1])
			made.take(seen.Lo, seen.Hi)
		})
		expectOut(t, "all inputs", m, 1, list(s), api.Span(made), api.OK)
		expectSpread(t, "all inputs", m, list(s, api.Span(made)), api.Fault{})
		if t.Failed() {
			t.Fatalf("%+v", m)
		}
	}
	for kind := 1; kind <= 8; kind++ {
		if kinds[kind] < 200 {
			t.Errorf("kind %d: only %d ops", kind, kinds[kind])
		}
	}
}

// wider are spans that hold s.
func wider(r *rand.Rand, s api.Span) []api.Span {
	return []api.Span{
		span(-128, 127), span(-128, s.Hi), span(s.Lo, 127), span(max(-128, s.Lo-1), s.Hi), span(s.Lo, min(127, s.Hi+1)),
		span(s.Lo-r.Int63n(s.Lo+129), s.Hi+r.Int63n(128-s.Hi)), s,
	}
}

// widened are lists each of whose spans holds that of the list: one of them
// wider, and all.
func widened(r *rand.Rand, ranges []api.Span) [][]api.Span {
	var all [][]api.Span
	for n, s := range ranges {
		for _, w := range wider(r, s) {
			one := slices.Clone(ranges)
			one[n] = w
			all = append(all, one)
		}
	}
	each := slices.Clone(ranges)
	for n, s := range each {
		each[n] = anyOf(r, wider(r, s)...)
	}
	return append(all, each)
}

// holdWider holds Out over wider spans to what it answers over these.
func holdWider(t *testing.T, r *rand.Rand, name string, m api.Model, op int, ranges []api.Span) {
	t.Helper()
	narrow, e := flow.Out(m, op, ranges)
	for _, w := range widened(r, ranges) {
		if wide, err := flow.Out(m, op, w); e != api.OK || err != api.OK || !holds(wide, narrow) {
			t.Fatalf("%s: op %d: over %v %v %d, over %v %v %d\n%+v", name, op, ranges, narrow, int(e), w, wide, int(err), m)
		}
	}
}

// P14.4: of ops of each kind, of all models but the great ones.
func TestWiderSpans(t *testing.T) {
	r := rand.New(rand.NewSource(147))
	for _, n := range allModels() {
		if isGreat(n.m) {
			continue
		}
		for op := 1; op <= len(n.m.Ops); op++ {
			for _, s := range spans() {
				holdWider(t, r, n.name, n.m, op, slices.Repeat(list(s), op))
			}
			holdWider(t, r, n.name, n.m, op, anySpans(r, op))
		}
	}
}

func TestWiderSpansRandom(t *testing.T) {
	r := rand.New(rand.NewSource(148))
	for range 1500 {
		m := anyModel(r, 4)
		for op := range m.Ops {
			holdWider(t, r, "random", m, op+1, anySpans(r, op+1))
		}
	}
}

// P14.4: a wider declared range makes no tensor's span narrower.
func TestWiderInput(t *testing.T) {
	r := rand.New(rand.NewSource(149))
	for range 1500 {
		m := anyModel(r, 6)
		narrow, _ := flow.Spread(m)
		for _, s := range wider(r, span(int64(m.Lo), int64(m.Hi))) {
			wide, f := flow.Spread(declaring(int(s.Lo), int(s.Hi), m))
			if f != (api.Fault{}) || len(wide) != len(narrow) {
				t.Fatalf("%v %v; %v", wide, f, narrow)
			}
			for n := range narrow {
				if !holds(wide[n], narrow[n]) {
					t.Fatalf("tensor %d: %v doesn't hold %v\n%+v", n, wide[n], narrow[n], m)
				}
			}
		}
	}
}

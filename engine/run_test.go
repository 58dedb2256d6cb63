package engine_test

import (
	"math/rand"
	"slices"
	"sync"
	"testing"

	"spillway/api"
	"spillway/engine"
	"spillway/terms"
)

// scaledBy is the model with another scale at its first op.
func scaledBy(mult, shift int, m api.Model) api.Model {
	m.Ops = slices.Clone(m.Ops)
	m.Ops[0].SA = api.Scale{Mult: mult, Shift: shift}
	return m
}

// P22.4, P22.5: sums worked by hand, with registers of both widths and blocks of
// one and of two: one output, and the registers as chapter 20's example 2 has
// them.
func TestPlansOfOneModel(t *testing.T) {
	for _, e := range []struct {
		plan api.Chan
		want api.Track
	}{
		{api.Chan{Width: 16, Depth: 2, Part: span(-20, 30), Total: span(-19, 31)}, api.Track{Muls16: 2, Adds16: 2, Adds32: 1, Low16: 20, High16: 30, Low32: 21, High32: 21}},
		{api.Chan{Width: 16, Depth: 1, Part: span(-20, 30), Total: span(-19, 31)}, api.Track{Muls16: 2, Adds16: 2, Adds32: 2, Low16: -10, High16: 30, Low32: 21, High32: 31}},
		{api.Chan{Width: 32, Depth: 2, Part: span(-19, 31), Total: span(-19, 31)}, api.Track{Muls32: 2, Adds32: 2, Low32: 21, High32: 31}},
	} {
		s := loaded(t, "the example", narrowBytes(), claimed(t, func(p *api.Chan) { *p = e.plan }))
		expectRun(t, "the example", s, []int8{10, 5}, []int8{21})
		expectTrace(t, "the example", s, []int8{10, 5}, e.want)
	}
}

// P22.4: outputs worked by hand, of ops behind one another.
func TestRunByHand(t *testing.T) {
	between := func(a, lo, hi int) api.Op { return api.Op{Kind: api.Clamp, A: a, Lo: lo, Hi: hi} }
	sum := api.Op{Kind: api.Add, A: 1, B: 2, SA: api.Scale{Mult: 1}, SB: api.Scale{Mult: 2}, Lo: -128, Hi: 127}
	m := star(of(1, 1, 3), between(0, -10, 10), between(0, 5, 127), sum, api.Op{Kind: api.Average, A: 3, Win: kernel(1, 1, 1, 1), Lo: -3, Hi: 100})
	x := []int8{-50, 7, 30}
	for tensor, want := range [][]int8{{-50, 7, 30}, {-10, 7, 10}, {5, 7, 30}, {0, 21, 70}, {0, 21, 70}} {
		expectRun(t, "by hand", plannedSession(t, "by hand", from(tensor, m)), x, want)
	}
	s := plannedSession(t, "by hand", m)
	expectTrace(t, "by hand", s, x, api.Track{}, api.Track{}, api.Track{}, api.Track{Muls16: 3, Adds16: 3, Adds32: 3, High16: 70, High32: 70})
}

// P22.4: inputs of another length.
func TestLengthsOfInputs(t *testing.T) {
	r := rand.New(rand.NewSource(226))
	for _, n := range append(smallModels(), greatModels()[0], greatModels()[8]) {
		s := plannedSession(t, n.name, n.m)
		places, out := placesOf(n.m.In), placesOf(s.Out())
		expectRefused(t, n.name, s, nil, api.ErrInput)
		expectRefused(t, n.name, s, []int8{}, api.ErrInput)
		for _, length := range []int{1, places - 1, places + 1, 2 * places, 2*places + 1, places + 1<<8, places + 1<<16, out, n.m.In.H * n.m.In.W, n.m.In.C} {
			if length == places {
				continue
			}
			x := slices.Repeat([]int8{int8(n.m.Lo)}, length)
			expectRefused(t, n.name, s, x, api.ErrInput)
			// The room behind it doesn't make it longer.
			expectRefused(t, n.name, s, append(x, allOf(n.m, n.m.Lo)...)[:length], api.ErrInput)
		}
		x := declared(r, n.m)
		holdRun(t, n.name, s, n.m, s.Cert(), x)
	}
}

// P22.4, P4: numbers at the ends of the declared range, and one beyond them, in
// the first, a middle and the last place.
func TestNumbersBeyondTheDeclaredRange(t *testing.T) {
	ranges := []api.Span{span(0, 10), span(-5, 5), span(-128, 126), span(-127, 127), span(7, 7), span(-128, -128), span(127, 127), span(-100, -3), span(-128, 127), span(0, 127), span(-128, 0)}
	for _, n := range []named{{"every kind", everyKind()}, {"skipping", skipping()}, {"no ops", star(of(2, 2, 2))}, {"one number", star(of(1, 1, 1), clamp())}} {
		for _, declared := range ranges {
			m := declaring(int(declared.Lo), int(declared.Hi), n.m)
			s := plannedSession(t, n.name, m)
			for _, at := range []int{0, placesOf(m.In) / 2, placesOf(m.In) - 1} {
				for _, end := range []int{m.Lo, m.Hi} {
					x := allOf(m, m.Lo+m.Hi-end)
					x[at] = int8(end)
					holdRun(t, n.name, s, m, s.Cert(), x)
				}
				for _, beyond := range []int{m.Lo - 1, m.Hi + 1, -128, 127, m.Lo - 50, m.Hi + 50} {
					if beyond < -128 || beyond > 127 || m.Lo <= beyond && beyond <= m.Hi {
						continue
					}
					x := allOf(m, m.Lo, m.Hi)
					x[at] = int8(beyond)
					expectRefused(t, n.name, s, x, api.ErrInput)
					expectRefused(t, n.name, s, x[:len(x)-1], api.ErrInput)
				}
			}
		}
	}
}

// P22.4: the declared range counts, not the certificate's Ranges, which may be
// wider.
func TestTheDeclaredRangeCounts(t *testing.T) {
	m := declaring(0, 10, row(1, 3, -2))
	c := planned(t, "wider", declaring(-128, 127, m))
	s := sessionOf(t, "wider", m, c)
	for _, x := range [][]int8{{11, 0}, {0, 11}, {-1, 0}, {0, -1}, {127, 127}} {
		expectRefused(t, "wider", s, x, api.ErrInput)
	}
	expectRun(t, "wider", s, []int8{10, 0}, []int8{31})
	expectRun(t, "wider", s, []int8{0, 10}, []int8{-19})
}

// P22.4: what an op makes doesn't count: its numbers may be beyond the declared
// range.
func TestTensorsBeyondTheDeclaredRange(t *testing.T) {
	m := declaring(1, 3, row(100, 3, -2))
	expectRun(t, "beyond", plannedSession(t, "beyond", m), []int8{3, 1}, []int8{107})
	second := star(of(1, 1, 2), m.Ops[0], row(-100, 1).Ops[0])
	second.Ops[1].A = 1
	s := plannedSession(t, "beyond", declaring(1, 3, second))
	expectRun(t, "beyond", s, []int8{3, 1}, []int8{7})
}

// driven are numbers of the declared range that bring a channel's sum at some
// position furthest up, or furthest down.
func driven(r *rand.Rand, m api.Model, at place, up bool) []int8 {
	x := declared(r, m)
	positions, _ := terms.Positions(m, at.op)
	row, _, _ := terms.Of(m, at.op, at.ch, r.Intn(positions))
	for _, term := range row {
		if term.At < 0 {
			continue
		}
		x[term.At] = int8(m.Lo)
		if up == (term.W > 0) {
			x[term.At] = int8(m.Hi)
		}
	}
	return x
}

// inputs are numbers of the declared range: all at one end, at both in turn, any,
// and such that drive a sum of an op that reads the input to its ends.
func inputs(r *rand.Rand, m api.Model, c api.Cert) [][]int8 {
	all := [][]int8{allOf(m, m.Lo), allOf(m, m.Hi), allOf(m, m.Lo, m.Hi), allOf(m, m.Hi, m.Lo), declared(r, m)}
	for _, at := range some(placesIn(c), 6) {
		if m.Ops[at.op-1].A == 0 {
			all = append(all, driven(r, m, at, true), driven(r, m, at, false))
		}
	}
	return all
}

// P22.4, P22.5, P2: outputs and Tracks against layers 11 and 21, by the planned
// certificate and by others that hold: one output, whichever it is.
func TestRunsOfModels(t *testing.T) {
	r := rand.New(rand.NewSource(227))
	all := smallModels()
	for _, n := range smallModels() {
		all = append(all, named{n.name + ", steeper", steeper(n.m, 9)})
	}
	for range 700 {
		all = append(all, named{"random", anyModel(r, 5)})
	}
	var narrow, wide, wider int
	for _, n := range all {
		c, f := engine.Plan(bytesOf(n.m))
		if f != (api.Fault{}) {
			continue
		}
		best := loaded(t, n.name, bytesOf(n.m), c)
		certs := append(holding(r, n.m, 3), best.Cert())
		for _, c := range certs {
			s := sessionOf(t, n.name, n.m, c)
			for _, x := range inputs(r, n.m, c) {
				holdRun(t, n.name, s, n.m, c, x)
				want, _ := best.Run(x)
				expectRun(t, n.name, s, x, want)
			}
			for _, at := range placesIn(c) {
				p, q := at.of(c), at.of(best.Cert())
				if p.Width == 16 {
					narrow++
				} else {
					wide++
				}
				if p.Width > q.Width || p.Width == q.Width && p.Depth < q.Depth {
					wider++
				}
			}
		}
	}
	if narrow < 3000 || wide < 3000 || wider < 1000 {
		t.Errorf("%d channels 16 wide, %d 32 wide, %d wider or of lesser depth than planned", narrow, wide, wider)
	}
}

// P2, P4: whatever is claimed: what is taken answers what layer 11 does, and no
// register wraps.
func TestWhatIsTakenRunsRight(t *testing.T) {
	r := rand.New(rand.NewSource(228))
	taken, refused := 0, 0
	for range 4000 {
		m := anyModel(r, 4)
		c := otherCert(r, m)
		for range r.Intn(3) {
			turnCert(r, &c)
		}
		s, f := engine.Load(bytesOf(m), sealed(t, c))
		if f != (api.Fault{}) {
			refused++
			continue
		}
		taken++
		for _, x := range inputs(r, m, c) {
			holdRun(t, "taken", s, m, c, x)
		}
	}
	if taken < 1500 || refused < 500 {
		t.Errorf("%d taken, %d refused", taken, refused)
	}
}

// P2: registers that are borne up to their very ends.
func TestUpToTheEnds(t *testing.T) {
	const most, least = 1<<31 - 1, -1 << 31
	for _, e := range []struct {
		m       api.Model
		x       int8
		low16   int
		high16  int
		low32   int
		high32  int
		refused api.Fault // of a weight more
	}{
		{declaring(0, 7, row(0, 4681)), 7, 32767, 32767, 32767, 32767, fault(api.ErrPart, 1, 1)},
		{declaring(-128, 0, row(0, 256)), -128, -32768, -32768, -32768, -32768, fault(api.ErrPart, 1, 1)},
		{declaring(0, 127, row(most-127, 1)), 127, 127, 127, most, most, fault(api.ErrWide, 1, 1)},
		{declaring(-128, 0, row(least+128, 1)), -128, -128, -128, least, least, fault(api.ErrWide, 1, 1)},
		{declaring(0, 127, row(most-38100, 300)), 127, 0, 0, most, most, fault(api.ErrWide, 1, 1)},
		{declaring(-128, 0, row(least+38400, 300)), -128, 0, 0, least, least, fault(api.ErrWide, 1, 1)},
	} {
		s := plannedSession(t, "up to the ends", e.m)
		c := s.Cert()
		holdRun(t, "up to the ends", s, e.m, c, []int8{e.x})
		tracks, _ := s.Trace([]int8{e.x})
		if got := tracks[0]; got.Low16 != e.low16 || got.High16 != e.high16 || got.Low32 != e.low32 || got.High32 != e.high32 {
			t.Errorf("%+v; want %+v", got, e)
		}
		more := e.m.Ops[0].Weights[0] + 1
		expectFault(t, "a step more", bytesOf(declaring(e.m.Lo, e.m.Hi, row(e.m.Ops[0].Bias[0], more))), sealed(t, c), e.refused)
	}
}

// P22.6, P22.4: Runs behind each other, refused ones between them, answer as the
// first one did.
func TestRunsBehindEachOther(t *testing.T) {
	r := rand.New(rand.NewSource(229))
	for _, n := range smallModels() {
		s := plannedSession(t, n.name, n.m)
		xs := inputs(r, n.m, s.Cert())
		for range 3 {
			for _, x := range xs {
				holdRun(t, n.name, s, n.m, s.Cert(), x)
				expectRefused(t, n.name, s, x[1:], api.ErrInput)
			}
		}
	}
}

// P22.6: several Runs and Traces of one session at one time, and all its other
// calls beside them.
func TestRunsAtOneTime(t *testing.T) {
	r := rand.New(rand.NewSource(230))
	for _, n := range append(smallModels(), greatModels()[5]) {
		s := plannedSession(t, n.name, n.m)
		xs := inputs(r, n.m, s.Cert())
		var outs [][]int8
		for _, x := range xs {
			want, _ := s.Run(x)
			outs = append(outs, want)
		}
		var all sync.WaitGroup
		for worker := range 8 {
			all.Go(func() {
				for i := range 2 * len(xs) {
					k := (i + worker) % len(xs)
					expectRun(t, n.name, s, xs[k], outs[k])
					s.Trace(xs[k])
					expectRefused(t, n.name, s, xs[k][1:], api.ErrInput)
				}
				holdWhatItHas(t, n.name, s, n.m, s.Cert())
			})
		}
		all.Wait()
	}
}

// P22.5: a Track for each op, all 0 of ops that don't reduce, whichever tensor is
// the output.
func TestTraceOfEachOp(t *testing.T) {
	r := rand.New(rand.NewSource(231))
	for _, n := range smallModels() {
		c := planned(t, n.name, n.m)
		x := declared(r, n.m)
		_, want := opByOp(t, n.name, n.m, c, x)
		for tensor := range len(n.m.Ops) + 1 {
			s := sessionOf(t, n.name, from(tensor, n.m), c)
			expectTrace(t, n.name, s, x, want...)
		}
		for i, track := range want {
			if reduces := n.m.Ops[i].Kind <= api.Average; reduces == (track == api.Track{}) {
				t.Errorf("%s: op %d: %+v", n.name, i+1, track)
			}
		}
	}
}

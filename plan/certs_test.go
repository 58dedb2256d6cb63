package plan_test

import (
	"math"
	"math/rand"
	"reflect"
	"slices"
	"testing"

	"spillway/api"
	"spillway/plan"
)

func span(lo, hi int64) api.Span { return api.Span{Lo: lo, Hi: hi} }

func list(spans ...api.Span) []api.Span { return spans }

func narrow(depth int, part, total api.Span) api.Chan {
	return api.Chan{Width: 16, Depth: depth, Part: part, Total: total}
}

func wide(depth int, part, total api.Span) api.Chan {
	return api.Chan{Width: 32, Depth: depth, Part: part, Total: total}
}

// chans are an op's plans.
func chans(plans ...api.Chan) []api.Chan { return plans }

func tooWideAt(op, ch int) api.Fault { return api.Fault{Err: api.ErrWide, Op: op, Chan: ch} }

// listed is the certificate with nil for every list that has nothing in it.
func listed(c api.Cert) api.Cert {
	c.Ranges, c.Plans = slices.Clone(c.Ranges), slices.Clone(c.Plans)
	for i, plans := range c.Plans {
		if len(plans) == 0 {
			c.Plans[i] = nil
		}
	}
	if len(c.Ranges) == 0 {
		c.Ranges = nil
	}
	if len(c.Plans) == 0 {
		c.Plans = nil
	}
	return c
}

// expectFault holds both calls to a fault; beside it there is no certificate.
func expectFault(t *testing.T, name string, m api.Model, want api.Fault) {
	t.Helper()
	if got := plan.Fits(m); got != want {
		t.Errorf("%s: Fits: %v; want %v", name, got, want)
	}
	c, got := plan.Plan(m)
	if got != want {
		t.Errorf("%s: Plan: %v; want %v", name, got, want)
	}
	if len(c.Ranges) != 0 || len(c.Plans) != 0 {
		t.Errorf("%s: Plan has a fault, and answers %v", name, c)
	}
}

// expectPlan holds both calls to a certificate.
func expectPlan(t *testing.T, name string, m api.Model, want api.Cert) {
	t.Helper()
	if got := plan.Fits(m); got != (api.Fault{}) {
		t.Errorf("%s: Fits: %v", name, got)
	}
	c, f := plan.Plan(m)
	if f != (api.Fault{}) || !reflect.DeepEqual(listed(c), listed(want)) {
		t.Errorf("%s: Plan: %v %v; want %v", name, c, f, want)
	}
}

// holdModel holds both calls to what the second reading answers, and tells
// whether there is a certificate.
func holdModel(t *testing.T, name string, m api.Model) (api.Cert, bool) {
	t.Helper()
	if f := secondFits(m); f != (api.Fault{}) {
		expectFault(t, name, m, f)
		return api.Cert{}, false
	}
	c := secondPlan(m)
	expectPlan(t, name, m, c)
	return c, true
}

// planned is what Plan answers of a model that fits.
func planned(t *testing.T, name string, m api.Model) api.Cert {
	t.Helper()
	c, f := plan.Plan(m)
	if f != (api.Fault{}) {
		t.Fatalf("%s: %v\n%+v", name, f, m)
	}
	return c
}

// place is where a plan stands.
type place struct{ op, ch int }

func (at place) of(c api.Cert) *api.Chan { return &c.Plans[at.op-1][at.ch-1] }

func (at place) fault(e api.Errno) api.Fault { return api.Fault{Err: e, Op: at.op, Chan: at.ch} }

// places are those of all plans, in their order.
func places(m api.Model) []place {
	var all []place
	for _, op := range reducing(m) {
		for ch := range secondChannels(m, op) {
			all = append(all, place{op, ch + 1})
		}
	}
	return all
}

// some are at most so many of a list, the first and the last among them.
func some[T any](all []T, most int) []T {
	if len(all) <= most {
		return all
	}
	var few []T
	for i := range most {
		few = append(few, all[i*(len(all)-1)/(most-1)])
	}
	return few
}

// plannedOver is a certificate whose ranges are widened as told, and whose plans
// are chosen as told, over these ranges, and whether all running sums are of 32
// bits.
func plannedOver(m api.Model, widen func(api.Span) api.Span, choose func(reading) api.Chan) (api.Cert, bool) {
	c, ok := api.Cert{Ranges: list(widen(span(int64(m.Lo), int64(m.Hi))))}, true
	for i, op := range m.Ops {
		var plans []api.Chan
		for ch := range secondChannels(m, i+1) {
			r := read(m, i+1, ch+1, c.Ranges[op.A])
			ok = ok && both(r.run(), isInt32)
			plans = append(plans, choose(r))
		}
		c.Plans = append(c.Plans, plans)
		c.Ranges = append(c.Ranges, widen(secondComes(m, i+1, c.Ranges)))
	}
	return c, ok
}

// anyWidthAndDepth chooses a plan that holds, of all that do and claim no more
// than they must, if one does.
func anyWidthAndDepth(r *rand.Rand) func(reading) api.Chan {
	return func(found reading) api.Chan {
		if depths := found.safe(); len(depths) > 0 && r.Intn(4) > 0 {
			return found.claiming(16, anyOf(r, depths...))
		}
		return found.claiming(32, found.length)
	}
}

// wider is a span of values that holds s, which is one, too.
func wider(r *rand.Rand, s api.Span) api.Span {
	return anyOf(r, s, s, s, span(max(-128, s.Lo-1), s.Hi), span(s.Lo, min(127, s.Hi+1)), span(-128, s.Hi), span(s.Lo, 127),
		span(s.Lo-r.Int63n(s.Lo+129), s.Hi+r.Int63n(128-s.Hi)), span(-128, 127))
}

// register is what a plan's Part must lie in.
func register(width int) api.Span {
	if width == 16 {
		return span(math.MinInt16, math.MaxInt16)
	}
	return span(math.MinInt32, math.MaxInt32)
}

// widerClaims is a plan with a Part that is wider within its register, and a
// Total that is within 32 bits.
func widerClaims(r *rand.Rand, p api.Chan) api.Chan {
	p.Part, p.Total = widerWithin(r, p.Part, register(p.Width)), widerWithin(r, p.Total, register(32))
	return p
}

func widerWithin(r *rand.Rand, s, limit api.Span) api.Span {
	if !holds(limit, s) {
		return s
	}
	lo := anyOf(r, s.Lo, s.Lo, max(s.Lo-1, limit.Lo), limit.Lo, s.Lo-r.Int63n(s.Lo-limit.Lo+1))
	hi := anyOf(r, s.Hi, s.Hi, min(s.Hi+1, limit.Hi), limit.Hi, s.Hi+r.Int63n(limit.Hi-s.Hi+1))
	return span(lo, hi)
}

// anyHolding is a certificate with ranges and claims that are just what they
// must be, or wider: it holds, if all running sums are of 32 bits.
func anyHolding(r *rand.Rand, m api.Model) (api.Cert, bool) {
	widen := func(s api.Span) api.Span { return s }
	if r.Intn(2) == 0 {
		widen = func(s api.Span) api.Span { return wider(r, s) }
	}
	choose := anyWidthAndDepth(r)
	if r.Intn(2) == 0 {
		choose = func(found reading) api.Chan { return widerClaims(r, anyWidthAndDepth(r)(found)) }
	}
	return plannedOver(m, widen, choose)
}

// turned is a copy of the certificate that something was done to.
func turned(c api.Cert, do func(c *api.Cert)) api.Cert {
	c.Ranges, c.Plans = slices.Clone(c.Ranges), slices.Clone(c.Plans)
	for i, plans := range c.Plans {
		c.Plans[i] = slices.Clone(plans)
	}
	do(&c)
	return c
}

// steeper is the model with weights that are so many times as great, so that
// registers run over.
func steeper(m api.Model, by int16) api.Model {
	m.Ops = slices.Clone(m.Ops)
	for i, op := range m.Ops {
		m.Ops[i].Weights = slices.Clone(op.Weights)
		for k := range op.Weights {
			m.Ops[i].Weights[k] *= by
		}
	}
	return m
}

// narrower are spans that s holds.
func narrower(r *rand.Rand, s api.Span) []api.Span {
	a, b := s.Lo+r.Int63n(s.Hi-s.Lo+1), s.Lo+r.Int63n(s.Hi-s.Lo+1)
	all := list(s, span(s.Lo, s.Lo), span(s.Hi, s.Hi), span(min(s.Lo+1, s.Hi), s.Hi), span(s.Lo, max(s.Hi-1, s.Lo)), span(min(a, b), max(a, b)))
	return slices.Compact(all)
}

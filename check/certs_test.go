package check_test

import (
	"math"
	"math/rand"
	"slices"
	"testing"

	"spillway/api"
	"spillway/check"
)

func span(lo, hi int64) api.Span { return api.Span{Lo: lo, Hi: hi} }

func list(spans ...api.Span) []api.Span { return spans }

func expectCheck(t *testing.T, name string, m api.Model, c api.Cert, want api.Fault) {
	t.Helper()
	if got := check.Check(m, c); got != want {
		t.Errorf("%s: Check: %v; want %v", name, got, want)
	}
}

func expectChan(t *testing.T, name string, m api.Model, op, ch int, s api.Span, p api.Chan, want api.Errno) {
	t.Helper()
	if got := check.Chan(m, op, ch, s, p); got != want {
		t.Errorf("%s: Chan(%d, %d, %v, %v): %d; want %d", name, op, ch, s, p, int(got), int(want))
	}
}

// exampleCert is the one of chapter 15's example 1.
func exampleCert() api.Cert {
	return api.Cert{
		Ranges: list(span(0, 10), span(-19, 31)),
		Plans:  [][]api.Chan{{{Width: 16, Depth: 2, Part: span(-20, 30), Total: span(-19, 31)}}},
	}
}

// claiming is the plan of that width and depth that claims no more than it
// must.
func (r reading) claiming(width, depth int) api.Chan {
	part := r.run()
	if width == 16 {
		part = r.part(depth)
	}
	return api.Chan{Width: width, Depth: depth, Part: part, Total: r.total()}
}

// best is the plan with the narrowest register and the greatest depth.
func (r reading) best() api.Chan {
	for depth := r.length; depth >= 1; depth-- {
		if both(r.part(depth), isInt16) {
			return r.claiming(16, depth)
		}
	}
	return r.claiming(32, r.length)
}

// safe are the depths with which a register of 16 bits bears all blocks.
func (r reading) safe() []int {
	var all []int
	for depth := 1; depth <= r.length; depth++ {
		if both(r.part(depth), isInt16) {
			all = append(all, depth)
		}
	}
	return all
}

// planned is a certificate that claims no more than it must, with the best
// plans; it doesn't hold where a running sum leaves 32 bits, which it tells.
func planned(m api.Model) (api.Cert, bool) {
	same := func(s api.Span) api.Span { return s }
	return plannedOver(m, same, reading.best)
}

// plannedOver is a certificate whose ranges are widened as told, and whose plans
// are chosen as told, over these ranges, and whether all running sums are of 32
// bits.
func plannedOver(m api.Model, widen func(api.Span) api.Span, choose func(reading) api.Chan) (api.Cert, bool) {
	c, ok := api.Cert{Ranges: list(widen(span(int64(m.Lo), int64(m.Hi))))}, true
	for i, op := range m.Ops {
		var plans []api.Chan
		for ch := range secondChannels(m, i+1) {
			r := read(m, i+1, ch+1, c.Ranges[op.A])
			ok = ok && both(r.run(), isInt32)
			plans = append(plans, choose(r))
		}
		c.Plans = append(c.Plans, plans)
		c.Ranges = append(c.Ranges, widen(secondComes(m, i+1, c.Ranges)))
	}
	return c, ok
}

// plannedFor is the planned certificate of a model that the tests name.
func plannedFor(t *testing.T, n named) api.Cert {
	t.Helper()
	c, ok := planned(n.m)
	if !ok {
		t.Fatalf("%s: it can't be planned", n.name)
	}
	return c
}

// anyWidthAndDepth chooses a plan that holds, of all that do and claim no more
// than they must, if one does.
func anyWidthAndDepth(r *rand.Rand) func(reading) api.Chan {
	return func(found reading) api.Chan {
		if depths := found.safe(); len(depths) > 0 && r.Intn(4) > 0 {
			return found.claiming(16, anyOf(r, depths...))
		}
		return found.claiming(32, found.length)
	}
}

// wider is a span of values that holds s, which is one, too.
func wider(r *rand.Rand, s api.Span) api.Span {
	return anyOf(r, s, s, s, span(max(-128, s.Lo-1), s.Hi), span(s.Lo, min(127, s.Hi+1)), span(-128, s.Hi), span(s.Lo, 127),
		span(s.Lo-r.Int63n(s.Lo+129), s.Hi+r.Int63n(128-s.Hi)), span(-128, 127))
}

// register is what a plan's Part must lie in.
func register(width int) api.Span {
	if width == 16 {
		return span(math.MinInt16, math.MaxInt16)
	}
	return span(math.MinInt32, math.MaxInt32)
}

// widerClaims is a plan with a Part that is wider within its register, and a
// Total that is within 32 bits.
func widerClaims(r *rand.Rand, p api.Chan) api.Chan {
	p.Part, p.Total = widerWithin(r, p.Part, register(p.Width)), widerWithin(r, p.Total, register(32))
	return p
}

func widerWithin(r *rand.Rand, s, limit api.Span) api.Span {
	if !holds(limit, s) {
		return s
	}
	lo := anyOf(r, s.Lo, s.Lo, max(s.Lo-1, limit.Lo), limit.Lo, s.Lo-r.Int63n(s.Lo-limit.Lo+1))
	hi := anyOf(r, s.Hi, s.Hi, min(s.Hi+1, limit.Hi), limit.Hi, s.Hi+r.Int63n(limit.Hi-s.Hi+1))
	return span(lo, hi)
}

// anyHolding is a certificate with ranges and claims that are just what they
// must be, or wider: it holds, if all running sums are of 32 bits.
func anyHolding(r *rand.Rand, m api.Model) (api.Cert, bool) {
	widen := func(s api.Span) api.Span { return s }
	if r.Intn(2) == 0 {
		widen = func(s api.Span) api.Span { return wider(r, s) }
	}
	choose := anyWidthAndDepth(r)
	if r.Intn(2) == 0 {
		choose = func(found reading) api.Chan { return widerClaims(r, anyWidthAndDepth(r)(found)) }
	}
	return plannedOver(m, widen, choose)
}

// copied shares no memory with the certificate.
func copied(c api.Cert) api.Cert {
	c.Ranges = slices.Clone(c.Ranges)
	c.Plans = slices.Clone(c.Plans)
	for i, plans := range c.Plans {
		c.Plans[i] = slices.Clone(plans)
	}
	return c
}

// turned is a copy of the certificate that something was done to.
func turned(c api.Cert, do func(c *api.Cert)) api.Cert {
	c = copied(c)
	do(&c)
	return c
}

// place is where a plan stands.
type place struct{ op, ch int }

func (at place) of(c api.Cert) *api.Chan { return &c.Plans[at.op-1][at.ch-1] }

func (at place) fault(e api.Errno) api.Fault { return api.Fault{Err: e, Op: at.op, Chan: at.ch} }

// places are those of all plans, in their order.
func places(m api.Model) []place {
	var all []place
	for _, op := range reducing(m) {
		for ch := range secondChannels(m, op) {
			all = append(all, place{op, ch + 1})
		}
	}
	return all
}

// some are at most so many of a list, the first and the last among them.
func some[T any](all []T, most int) []T {
	if len(all) <= most {
		return all
	}
	var few []T
	for i := range most {
		few = append(few, all[i*(len(all)-1)/(most-1)])
	}
	return few
}

// spansOfValues: of one number, on either side of 0, across it, the widest.
func spansOfValues() []api.Span {
	return list(
		span(0, 0), span(1, 1), span(-1, -1), span(127, 127), span(-128, -128), span(0, 10), span(3, 9), span(100, 127), span(0, 127),
		span(-9, -3), span(-128, -100), span(-128, 0), span(-5, 6), span(-7, 7), span(-127, 126), span(-128, 127),
	)
}

// noneOfValues are spans: Lo above Hi, an end beyond, ends as far out as an
// int64 goes, and such whose low bits would make a span of values.
func noneOfValues() []api.Span {
	const least, most = math.MinInt64, math.MaxInt64
	return list(
		span(5, 4), span(1, 0), span(0, -1), span(127, -128), span(127, 126), span(-127, -128),
		span(-129, 0), span(-129, 127), span(-129, -129), span(0, 128), span(-128, 128), span(128, 128), span(5, 200), span(128, 127), span(-128, -129),
		span(least, most), span(most, least), span(least, least), span(most, most), span(least, 0), span(0, most), span(0, least), span(most, 0),
		span(least, 127), span(-128, most), span(1<<32, 1<<32+10), span(0, 1<<32+10), span(-1<<32, 10), span(256, 266), span(0, 256), span(-256, 0),
	)
}

// noSpans aren't valid, some by 1, some by so much that a difference wraps.
func noSpans() []api.Span {
	const least, most = math.MinInt64, math.MaxInt64
	return list(
		span(1, 0), span(0, -1), span(5, 4), span(-4, -5), span(127, -128), span(1<<32, 5), span(5, -1<<32), span(1<<32+1, 1<<32),
		span(most, least), span(most, most-1), span(least+1, least), span(0, least), span(most, 0), span(1, least), span(most, -1),
	)
}

// farNumbers are numbers that name nothing, and that no width or depth is; of
// some the low bits would be 16, 32 or 1.
func farNumbers() []int {
	return []int{
		math.MinInt, math.MinInt + 1, math.MinInt + 16, math.MaxInt, math.MaxInt - 1, -1, -2, -16, -32, 1<<32 + 16, 1<<32 + 32, 1<<32 + 1, 1 << 32, -1 << 32,
		-1<<32 + 1, -1<<32 + 16, 1<<16 + 16, 1<<16 + 32, 1<<16 + 1, 1<<62 + 1, math.MaxInt32, math.MinInt32,
	}
}

// widthsThatAreNone are neither 16 nor 32.
func widthsThatAreNone() []int {
	return append(farNumbers(), 0, 1, 2, 8, 15, 17, 24, 31, 33, 48, 64, 256+16, 256+32)
}

// depthsThatAreNone are none of an op of that length.
func depthsThatAreNone(length int) []int {
	return append(farNumbers(), 0, length+1, length+2, length+1<<8, length+1<<16, length+1<<32, -length)
}

// anySpan is a span of values: any, of one number, at an end, or narrow.
func anySpan(r *rand.Rand) api.Span {
	lo := int64(anyValue(r))
	switch r.Intn(5) {
	case 0:
		return span(lo, lo)
	case 1:
		return span(-128, lo)
	case 2:
		return span(lo, 127)
	case 3:
		return span(lo, min(127, lo+int64(r.Intn(4))))
	}
	return span(lo, lo+int64(r.Intn(int(128-lo))))
}

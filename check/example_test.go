package check_test

import (
	"math"
	"slices"
	"testing"

	"spillway/api"
	"spillway/check"
)

// The chapter's example 1, and a few turns more of the same certificate.
func TestExampleOfChapter(t *testing.T) {
	plan := func(do func(p *api.Chan)) func(c *api.Cert) {
		return func(c *api.Cert) { do(&c.Plans[0][0]) }
	}
	part := func(lo, hi int64) func(c *api.Cert) {
		return plan(func(p *api.Chan) { p.Part = span(lo, hi) })
	}
	wide := func(lo, hi int64) func(c *api.Cert) {
		return plan(func(p *api.Chan) { p.Width, p.Part = 32, span(lo, hi) })
	}
	total := func(lo, hi int64) func(c *api.Cert) {
		return plan(func(p *api.Chan) { p.Total = span(lo, hi) })
	}
	depth := func(k int) func(c *api.Cert) { return plan(func(p *api.Chan) { p.Depth = k }) }
	ofPlan := func(e api.Errno) api.Fault { return api.Fault{Err: e, Op: 1, Chan: 1} }
	for _, row := range []struct {
		name string
		do   func(c *api.Cert)
		want api.Fault
	}{
		{"as it is", func(c *api.Cert) {}, api.Fault{}},
		{"Ranges[0] {1, 10}", func(c *api.Cert) { c.Ranges[0] = span(1, 10) }, api.Fault{Err: api.ErrClaim}},
		{"Ranges[0] {0, 9}", func(c *api.Cert) { c.Ranges[0] = span(0, 9) }, api.Fault{Err: api.ErrClaim}},
		{"Ranges[0] {0, 11}", func(c *api.Cert) { c.Ranges[0] = span(0, 11) }, ofPlan(api.ErrPart)},
		{"Ranges[1] {-18, 31}", func(c *api.Cert) { c.Ranges[1] = span(-18, 31) }, api.Fault{Err: api.ErrClaim, Op: 1}},
		{"Ranges[1] {-19, 30}", func(c *api.Cert) { c.Ranges[1] = span(-19, 30) }, api.Fault{Err: api.ErrClaim, Op: 1}},
		{"Ranges[1] {-128, 127}", func(c *api.Cert) { c.Ranges[1] = span(-128, 127) }, api.Fault{}},
		{"Part {-19, 30}", part(-19, 30), ofPlan(api.ErrPart)},
		{"Part {-20, 29}", part(-20, 29), ofPlan(api.ErrPart)},
		{"Part {-20, 32768}", part(-20, 32768), ofPlan(api.ErrWide)},
		{"Part {-32769, 30}", part(-32769, 30), ofPlan(api.ErrWide)},
		{"Part {-20, 32767}", part(-20, 32767), api.Fault{}},
		{"Part {-32768, 30}", part(-32768, 30), api.Fault{}},
		{"Part {1, 0}", part(1, 0), ofPlan(api.ErrSpan)},
		{"Total {-19, 30}", total(-19, 30), ofPlan(api.ErrTotal)},
		{"Total {-18, 31}", total(-18, 31), ofPlan(api.ErrTotal)},
		{"Total {-2^31, 2^31 - 1}", total(math.MinInt32, math.MaxInt32), api.Fault{}},
		{"Total {-19, 2^31}", total(-19, 1<<31), ofPlan(api.ErrWide)},
		{"Total {-2^31 - 1, 31}", total(-1<<31-1, 31), ofPlan(api.ErrWide)},
		{"Width 32, Part {-20, 30}", wide(-20, 30), ofPlan(api.ErrPart)},
		{"Width 32, Part {-19, 31}", wide(-19, 31), api.Fault{}},
		{"Width 32, Part {-18, 31}", wide(-18, 31), ofPlan(api.ErrPart)},
		{"Width 8", plan(func(p *api.Chan) { p.Width = 8 }), ofPlan(api.ErrWidth)},
		{"Depth 3", depth(3), ofPlan(api.ErrDepth)},
		{"Depth 0", depth(0), ofPlan(api.ErrDepth)},
		{"Depth 1", depth(1), api.Fault{}},
		{"no Plans", func(c *api.Cert) { c.Plans = nil }, api.Fault{Err: api.ErrLens}},
	} {
		m, c := denseExample(), turned(exampleCert(), row.do)
		expectCheck(t, row.name, m, c, row.want)
		if row.want.Chan > 0 && row.name[:5] != "Range" {
			expectChan(t, row.name, m, 1, 1, span(0, 10), c.Plans[0][0], row.want.Err)
		}
	}
}

// plans of a single channel, in one op over the span.
type tried struct {
	m    api.Model
	s    api.Span
	plan api.Chan
	want api.Errno
}

func (x tried) hold(t *testing.T) {
	t.Helper()
	expectChan(t, "tried", x.m, 1, 1, x.s, x.plan, x.want)
	if second := secondChan(x.m, 1, 1, x.s, x.plan); second != x.want {
		t.Errorf("the second reading of %v: %d; want %d", x.plan, int(second), int(x.want))
	}
}

func narrow(depth int, part, total api.Span) api.Chan {
	return api.Chan{Width: 16, Depth: depth, Part: part, Total: total}
}

func wide(depth int, part, total api.Span) api.Chan {
	return api.Chan{Width: 32, Depth: depth, Part: part, Total: total}
}

// The document's examples 3, 4, 5 and 7.
func TestExamplesOfDocument(t *testing.T) {
	third, all := row(0, 300, 1), span(-128, 127)
	run := span(-38400-128, 38100+127)
	fourth, positive := row(0, 200, 200), span(0, 127)
	far := func(bias int32) api.Model { return row(bias, slices.Repeat([]int16{-32768}, 512)...) }
	int32s := span(math.MinInt32, math.MaxInt32)
	for _, x := range []tried{
		{third, all, wide(2, run, run), api.OK},
		{third, all, wide(1, run, run), api.ErrDepth},
		{third, all, narrow(2, span(-32768, 32767), run), api.ErrPart},
		{third, all, narrow(1, span(-32768, 32767), run), api.ErrPart},
		{third, all, narrow(1, span(-38400, 38100), run), api.ErrWide},
		{third, all, narrow(2, run, run), api.ErrWide},
		{fourth, positive, narrow(1, span(0, 25400), span(0, 50800)), api.OK},
		{fourth, positive, narrow(2, span(0, 25400), span(0, 50800)), api.ErrPart},
		{fourth, positive, narrow(2, span(0, 32767), span(0, 50800)), api.ErrPart},
		{fourth, positive, narrow(2, span(-32768, 32767), span(0, 50800)), api.ErrPart},
		{fourth, positive, narrow(2, span(0, 50800), span(0, 50800)), api.ErrWide},
		{fourth, positive, narrow(2, span(0, 32768), span(0, 50800)), api.ErrWide},
		{fourth, positive, wide(2, span(0, 50800), span(0, 50800)), api.OK},
		{far(0), all, wide(512, int32s, int32s), api.ErrWide},
		{far(-1), all, wide(512, int32s, int32s), api.OK},
	} {
		x.hold(t)
	}
}

// Chapter 18's example 3: a depth that is safe between such that aren't.
func TestDepthsByHand(t *testing.T) {
	m, s := row(0, 200, -200, 200, 200), span(100, 127)
	total := span(3*20000-25400, 3*25400-20000)
	for _, x := range []tried{
		{m, s, narrow(1, span(-25400, 25400), total), api.OK},
		{m, s, narrow(1, span(-25400, 25399), total), api.ErrPart},
		{m, s, narrow(2, span(-32768, 32767), total), api.ErrPart},
		{m, s, narrow(2, span(-25400, 50800), total), api.ErrWide},
		{m, s, narrow(3, span(-25400, 30800), total), api.OK},
		{m, s, narrow(3, span(-25400, 30799), total), api.ErrPart},
		{m, s, narrow(3, span(-25399, 30800), total), api.ErrPart},
		{m, s, narrow(4, span(-32768, 32767), total), api.ErrPart},
		{m, s, narrow(4, span(-25400, 56200), total), api.ErrWide},
		{m, s, narrow(5, span(-25400, 25400), total), api.ErrDepth},
		// Its example 4: all partial sums fit, but not the second product.
		{row(0, -200, 300), s, narrow(2, span(-25400, 18100), span(4600, 18100)), api.ErrPart},
		{row(0, -200, 300), s, narrow(2, span(-32768, 32767), span(4600, 18100)), api.ErrPart},
		{row(0, -200, 300), s, narrow(2, span(-25400, 38100), span(4600, 18100)), api.ErrWide},
		{row(0, -200, 300), s, wide(2, span(-25400, 18100), span(4600, 18100)), api.OK},
		{row(0, -200, 300), s, wide(2, span(-25400, 18099), span(4600, 18100)), api.ErrPart},
	} {
		x.hold(t)
	}
}

// The document's example 8: with wider ranges a certificate holds, as long as
// its claims hold over them.
func TestWiderRangesByHand(t *testing.T) {
	wider := api.Cert{
		Ranges: list(span(-1, 12), span(-30, 40)),
		Plans:  [][]api.Chan{{narrow(2, span(-24-3, 36+2), span(1-27, 1+38))}},
	}
	expectCheck(t, "wider", denseExample(), wider, api.Fault{})
	expectCheck(t, "Ranges[0] alone", denseExample(), turned(exampleCert(), func(c *api.Cert) { c.Ranges[0] = span(-1, 12) }), api.Fault{Err: api.ErrPart, Op: 1, Chan: 1})
	expectCheck(t, "not the plan's Total", denseExample(), turned(wider, func(c *api.Cert) { c.Plans[0][0].Total = span(-19, 31) }), api.Fault{Err: api.ErrTotal, Op: 1, Chan: 1})
	expectCheck(t, "not the range behind", denseExample(), turned(wider, func(c *api.Cert) { c.Ranges[1] = span(-19, 31) }), api.Fault{Err: api.ErrClaim, Op: 1})
}

// A model without ops has its declared range to be held alone.
func TestWithoutOps(t *testing.T) {
	m := declaring(-5, 7, star(of(2, 2, 2)))
	for _, row := range []struct {
		s    api.Span
		want api.Fault
	}{
		{span(-5, 7), api.Fault{}}, {span(-6, 7), api.Fault{}}, {span(-5, 8), api.Fault{}}, {span(-128, 127), api.Fault{}},
		{span(-4, 7), api.Fault{Err: api.ErrClaim}}, {span(-5, 6), api.Fault{Err: api.ErrClaim}}, {span(8, 9), api.Fault{Err: api.ErrClaim}}, {span(-128, -6), api.Fault{Err: api.ErrClaim}},
		{span(7, -5), api.Fault{Err: api.ErrSpan}}, {span(-129, 7), api.Fault{Err: api.ErrSpan}}, {span(-5, 128), api.Fault{Err: api.ErrSpan}},
	} {
		expectCheck(t, "no ops", m, api.Cert{Ranges: list(row.s)}, row.want)
		expectCheck(t, "no ops", m, api.Cert{Ranges: list(row.s), Plans: [][]api.Chan{}}, row.want)
	}
	if e := check.Chan(m, 1, 1, span(-5, 7), api.Chan{}); e != api.ErrPlace {
		t.Errorf("Chan of a model without ops: %d", int(e))
	}
}

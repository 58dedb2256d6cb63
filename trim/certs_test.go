package trim_test

import (
	"math"
	"math/rand"

	"spillway/api"
	"spillway/bound"
	"spillway/depth"
	"spillway/flow"
	"spillway/terms"
)

func span(lo, hi int64) api.Span { return api.Span{Lo: lo, Hi: hi} }

// claiming is the plan of that width and depth that claims no more than it must,
// over numbers of that span.
func claiming(m api.Model, op, ch int, s api.Span, width, k int) api.Chan {
	part, _ := bound.Run(m, op, ch, s)
	if width == 16 {
		part, _ = bound.Part(m, op, ch, s, k)
	}
	total, _ := bound.Total(m, op, ch, s)
	return api.Chan{Width: width, Depth: k, Part: part, Total: total}
}

// register is what a plan's Part must lie in.
func register(width int) api.Span {
	if width == 16 {
		return span(math.MinInt16, math.MaxInt16)
	}
	return span(math.MinInt32, math.MaxInt32)
}

// widenedWithin is a span that holds s, and that limit holds, as it holds s.
func widenedWithin(r *rand.Rand, s, limit api.Span) api.Span {
	lo := anyOf(r, s.Lo, max(s.Lo-1, limit.Lo), limit.Lo, s.Lo-r.Int63n(s.Lo-limit.Lo+1))
	hi := anyOf(r, s.Hi, min(s.Hi+1, limit.Hi), limit.Hi, s.Hi+r.Int63n(limit.Hi-s.Hi+1))
	return span(lo, hi)
}

func within(s, limit api.Span) bool { return limit.Lo <= s.Lo && s.Hi <= limit.Hi }

// otherPlan holds over that span, if one does: often it is wider, or of a lesser
// depth, than it need be, and claims more.
func otherPlan(r *rand.Rand, m api.Model, op, ch int, s api.Span) api.Chan {
	length, _ := terms.Length(m, op)
	p := claiming(m, op, ch, s, 32, length)
	if k := 1 + r.Intn(length); r.Intn(3) > 0 {
		if safe, _ := depth.Safe(m, op, ch, s, k); safe {
			p = claiming(m, op, ch, s, 16, k)
		}
	}
	if r.Intn(2) == 0 && within(p.Part, register(p.Width)) && within(p.Total, register(32)) {
		p.Part, p.Total = widenedWithin(r, p.Part, register(p.Width)), widenedWithin(r, p.Total, register(32))
	}
	return p
}

// otherCert is a certificate with wider ranges, wider registers, wider claims and
// lesser depths than need be, or with some of these: mostly it holds.
func otherCert(r *rand.Rand, m api.Model) api.Cert {
	wider := func(s api.Span) api.Span { return s }
	if r.Intn(2) == 0 {
		wider = func(s api.Span) api.Span { return anyOf(r, s, widenedWithin(r, s, span(-128, 127))) }
	}
	c := api.Cert{Ranges: []api.Span{wider(span(int64(m.Lo), int64(m.Hi)))}}
	for i, o := range m.Ops {
		var plans []api.Chan
		channels, _ := terms.Channels(m, i+1)
		for k := range channels {
			plans = append(plans, otherPlan(r, m, i+1, k+1, c.Ranges[o.A]))
		}
		c.Plans = append(c.Plans, plans)
		comes, _ := flow.Out(m, i+1, c.Ranges)
		c.Ranges = append(c.Ranges, wider(comes))
	}
	return c
}

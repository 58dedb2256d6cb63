package engine_test

import (
	"math"
	"math/rand"
	"slices"

	"spillway/api"
	"spillway/bound"
	"spillway/check"
	"spillway/depth"
	"spillway/flow"
	"spillway/terms"
)

func span(lo, hi int64) api.Span { return api.Span{Lo: lo, Hi: hi} }

// place is where a plan stands.
type place struct{ op, ch int }

func (at place) of(c api.Cert) *api.Chan { return &c.Plans[at.op-1][at.ch-1] }

func (at place) fault(e api.Errno) api.Fault { return api.Fault{Err: e, Op: at.op, Chan: at.ch} }

// placesIn are those of all plans, in their order.
func placesIn(c api.Cert) []place {
	var all []place
	for i, plans := range c.Plans {
		for k := range plans {
			all = append(all, place{i + 1, k + 1})
		}
	}
	return all
}

// some are at most so many of a list, the first and the last among them.
func some[T any](all []T, most int) []T {
	if len(all) <= most {
		return all
	}
	var few []T
	for i := range most {
		few = append(few, all[i*(len(all)-1)/(most-1)])
	}
	return few
}

// copied shares no memory with the certificate.
func copied(c api.Cert) api.Cert {
	c.Ranges, c.Plans = slices.Clone(c.Ranges), slices.Clone(c.Plans)
	for i, plans := range c.Plans {
		c.Plans[i] = slices.Clone(plans)
	}
	return c
}

// turned is a copy of the certificate that something was done to.
func turned(c api.Cert, do func(c *api.Cert)) api.Cert {
	c = copied(c)
	do(&c)
	return c
}

// claiming is the plan of that width and depth that claims no more than it must,
// over numbers of that span.
func claiming(m api.Model, op, ch int, s api.Span, width, k int) api.Chan {
	part, _ := bound.Run(m, op, ch, s)
	if width == 16 {
		part, _ = bound.Part(m, op, ch, s, k)
	}
	total, _ := bound.Total(m, op, ch, s)
	return api.Chan{Width: width, Depth: k, Part: part, Total: total}
}

// register is what a plan's Part must lie in.
func register(width int) api.Span {
	if width == 16 {
		return span(math.MinInt16, math.MaxInt16)
	}
	return span(math.MinInt32, math.MaxInt32)
}

// widenedWithin is a span that holds s, and that limit holds, as it holds s.
func widenedWithin(r *rand.Rand, s, limit api.Span) api.Span {
	lo := anyOf(r, s.Lo, max(s.Lo-1, limit.Lo), limit.Lo, s.Lo-r.Int63n(s.Lo-limit.Lo+1))
	hi := anyOf(r, s.Hi, min(s.Hi+1, limit.Hi), limit.Hi, s.Hi+r.Int63n(limit.Hi-s.Hi+1))
	return span(lo, hi)
}

func within(s, limit api.Span) bool { return limit.Lo <= s.Lo && s.Hi <= limit.Hi }

// otherPlan holds over that span, if one does: often it is wider, or of a lesser
// depth, than it need be, and claims more.
func otherPlan(r *rand.Rand, m api.Model, op, ch int, s api.Span) api.Chan {
	length, _ := terms.Length(m, op)
	p := claiming(m, op, ch, s, 32, length)
	if k := 1 + r.Intn(length); r.Intn(3) > 0 {
		if safe, _ := depth.Safe(m, op, ch, s, k); safe {
			p = claiming(m, op, ch, s, 16, k)
		}
	}
	if r.Intn(2) == 0 && within(p.Part, register(p.Width)) && within(p.Total, register(32)) {
		p.Part, p.Total = widenedWithin(r, p.Part, register(p.Width)), widenedWithin(r, p.Total, register(32))
	}
	return p
}

// otherCert is a certificate with wider ranges, wider registers, wider claims and
// lesser depths than need be, or with some of these: mostly it holds.
func otherCert(r *rand.Rand, m api.Model) api.Cert {
	wider := func(s api.Span) api.Span { return s }
	if r.Intn(2) == 0 {
		wider = func(s api.Span) api.Span { return anyOf(r, s, widenedWithin(r, s, span(-128, 127))) }
	}
	c := api.Cert{Ranges: []api.Span{wider(span(int64(m.Lo), int64(m.Hi)))}}
	for i, o := range m.Ops {
		var plans []api.Chan
		channels, _ := terms.Channels(m, i+1)
		for k := range channels {
			plans = append(plans, otherPlan(r, m, i+1, k+1, c.Ranges[o.A]))
		}
		c.Plans = append(c.Plans, plans)
		comes, _ := flow.Out(m, i+1, c.Ranges)
		c.Ranges = append(c.Ranges, wider(comes))
	}
	return c
}

// holding are certificates of a model that hold: others than the planned one.
func holding(r *rand.Rand, m api.Model, tries int) []api.Cert {
	var all []api.Cert
	for range tries {
		if c := otherCert(r, m); check.Check(m, c) == (api.Fault{}) {
			all = append(all, c)
		}
	}
	return all
}

// turnPlan sets one of a plan's fields to another number.
func turnPlan(r *rand.Rand, p *api.Chan) {
	switch r.Intn(5) {
	case 0:
		p.Width = anyOf(r, 16, 32, 8)
	case 1:
		p.Depth = max(0, p.Depth+anyOf(r, -2, -1, 1, 2))
	case 2:
		p.Width, p.Depth, p.Part = 16, 1+r.Intn(max(1, p.Depth)), register(16)
	case 3:
		p.Part = anyOf(r, register(16), register(32), span(p.Part.Lo-1, p.Part.Hi), span(p.Part.Lo+1, p.Part.Hi))
	case 4:
		p.Total = anyOf(r, register(32), span(p.Total.Lo, p.Total.Hi+1), span(p.Total.Lo, p.Total.Hi-1))
	}
}

// turnCert turns one claim of a certificate.
func turnCert(r *rand.Rand, c *api.Cert) {
	if all := placesIn(*c); len(all) > 0 && r.Intn(3) > 0 {
		turnPlan(r, anyOf(r, all...).of(*c))
		return
	}
	s := &c.Ranges[r.Intn(len(c.Ranges))]
	*s = anyOf(r, span(-128, 127), span(s.Lo+1, s.Hi), span(s.Lo, s.Hi-1), span(s.Lo-1, s.Hi), span(s.Lo, s.Hi+1), span(0, 0))
}

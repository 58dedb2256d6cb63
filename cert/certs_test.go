package cert_test

import (
	"math"
	"math/rand"
	"slices"

	"spillway/api"
)

func span(lo, hi int64) api.Span { return api.Span{Lo: lo, Hi: hi} }

func list(spans ...api.Span) []api.Span { return spans }

// exampleCert is the one of the chapter's example 1.
func exampleCert() api.Cert {
	return api.Cert{
		Ranges: list(span(0, 10), span(-19, 31)),
		Plans:  [][]api.Chan{{{Width: 16, Depth: 2, Part: span(-20, 30), Total: span(-19, 31)}}},
	}
}

// fitting is a certificate that has the form of a well-formed model: no two of
// its spans and plans are the same, as far as the numbers go. Its depths are 1,
// which every op has.
func fitting(m api.Model) api.Cert {
	var c api.Cert
	for tensor := range len(m.Ops) + 1 {
		c.Ranges = append(c.Ranges, span(int64(-128+tensor), int64(tensor)))
	}
	for i := range m.Ops {
		var plans []api.Chan
		for k := range secondChannels(m, i+1) {
			n := int64(1000*i + k)
			plans = append(plans, api.Chan{Width: 16, Depth: 1, Part: span(-n-1, n+2), Total: span(-n-3, n+4)})
		}
		c.Plans = append(c.Plans, plans)
	}
	return c
}

// costing is a certificate of the model's form whose plans have the widths and
// depths that are told for each op (of that length) and each channel of it.
func costing(m api.Model, tell func(op, ch, length int) (width, depth int)) api.Cert {
	c := fitting(m)
	for i, plans := range c.Plans {
		for k := range plans {
			plans[k].Width, plans[k].Depth = tell(i+1, k+1, secondLength(m, i+1))
		}
	}
	return c
}

// copied shares no memory with the certificate.
func copied(c api.Cert) api.Cert {
	c.Ranges = slices.Clone(c.Ranges)
	c.Plans = slices.Clone(c.Plans)
	for i, plans := range c.Plans {
		c.Plans[i] = slices.Clone(plans)
	}
	return c
}

// turned is a copy of the certificate that something was done to.
func turned(c api.Cert, do func(c *api.Cert)) api.Cert {
	c = copied(c)
	do(&c)
	return c
}

// reducing are the numbers of the ops that have plans in a certificate of the
// model's form.
func reducing(m api.Model) []int {
	var all []int
	for op := 1; op <= len(m.Ops); op++ {
		if secondChannels(m, op) > 0 {
			all = append(all, op)
		}
	}
	return all
}

// spansOfValues: of one number, on either side of 0, across it, the widest.
func spansOfValues() []api.Span {
	return list(span(0, 0), span(127, 127), span(-128, -128), span(0, 10), span(100, 127), span(-128, -100), span(-5, 6), span(-127, 126), span(-128, 127))
}

// noneOfValues are spans: Lo above Hi, an end beyond, ends as far out as an
// int64 goes, and such whose low bits would make a span of values.
func noneOfValues() []api.Span {
	const least, most = math.MinInt64, math.MaxInt64
	return list(
		span(5, 4), span(1, 0), span(0, -1), span(127, -128), span(127, 126), span(-127, -128),
		span(-129, 0), span(-129, 127), span(-129, -129), span(0, 128), span(-128, 128), span(128, 128), span(5, 200), span(128, 127), span(-128, -129),
		span(least, most), span(most, least), span(least, least), span(most, most), span(least, 0), span(0, most), span(0, least), span(most, 0),
		span(least, 127), span(-128, most), span(1<<32, 1<<32+10), span(0, 1<<32+10), span(-1<<32, 10), span(256, 266), span(0, 256), span(-256, 0),
	)
}

// validSpans need not be of values: what is claimed isn't looked at.
func validSpans() []api.Span {
	const least, most = math.MinInt64, math.MaxInt64
	return list(
		span(0, 0), span(-1, 0), span(0, 1), span(-20, 30), span(128, 128), span(-129, -129), span(-32769, 32768), span(math.MinInt32-1, math.MaxInt32+1),
		span(least, most), span(least, least), span(most, most), span(least, least+1), span(most-1, most), span(1<<32, 1<<32), span(-1<<32, 1<<32),
	)
}

// noSpans aren't valid, some by 1, some by so much that a difference wraps.
func noSpans() []api.Span {
	const least, most = math.MinInt64, math.MaxInt64
	return list(
		span(1, 0), span(0, -1), span(5, 4), span(-4, -5), span(127, -128), span(1<<32, 5), span(5, -1<<32), span(1<<32+1, 1<<32),
		span(most, least), span(most, most-1), span(least+1, least), span(0, least), span(most, 0), span(1, least), span(most, -1),
	)
}

// farNumbers are numbers as a width or a depth may be, far from those that are
// right; of some the low bits would be 16, 32 or 1.
func farNumbers() []int {
	return []int{
		math.MinInt, math.MinInt + 16, math.MinInt + 1, math.MaxInt, math.MaxInt - 1, -1, -2, -16, -32, 1<<32 + 16, 1<<32 + 32, 1<<32 + 1, 1<<16 + 16,
		1<<8 + 16, 1<<8 + 32, 1<<16 + 32, -1<<32 + 16, math.MaxInt32, math.MinInt32, 1 << 62,
	}
}

// widthsThatAreNone are neither 16 nor 32.
func widthsThatAreNone() []int {
	return append(farNumbers(), 0, 1, 8, 15, 17, 24, 31, 33, 48, 64)
}

// anyCert has the model's form, mostly with widths and depths that its ops
// have.
func anyCert(r *rand.Rand, m api.Model) api.Cert {
	return costing(m, func(_, _, length int) (int, int) {
		switch r.Intn(60) {
		case 0:
			return anyOf(r, widthsThatAreNone()...), 1 + r.Intn(length)
		case 1:
			return 16, anyOf(r, append(farNumbers(), 0, length+1)...)
		case 2:
			return 32, anyOf(r, append(farNumbers(), 0, 1, length-1, length+1)...)
		}
		if r.Intn(2) == 0 {
			return 32, length
		}
		return 16, anyOf(r, 1, length, 1+r.Intn(length))
	})
}

// disturbCert spoils one thing of the certificate.
func disturbCert(r *rand.Rand, c *api.Cert) {
	op := r.Intn(len(c.Plans) + 1)
	switch r.Intn(8) {
	case 0:
		c.Ranges = c.Ranges[:r.Intn(len(c.Ranges)+1)]
	case 1:
		c.Ranges = append(c.Ranges, span(0, 1))
	case 2:
		c.Plans = c.Plans[:op]
	case 3:
		c.Plans = append(c.Plans, nil)
	case 4:
		if len(c.Ranges) > 0 {
			c.Ranges[r.Intn(len(c.Ranges))] = anyOf(r, append(noneOfValues(), spansOfValues()...)...)
		}
	default:
		if op < len(c.Plans) {
			c.Plans[op] = disturbPlans(r, c.Plans[op])
		}
	}
}

func disturbPlans(r *rand.Rand, plans []api.Chan) []api.Chan {
	if len(plans) == 0 || r.Intn(6) == 0 {
		return append(plans, api.Chan{})
	}
	at := r.Intn(len(plans))
	over := anyOf(r, append(noSpans(), validSpans()...)...)
	switch r.Intn(5) {
	case 0:
		return plans[:at]
	case 1:
		plans[at].Part = over
	case 2:
		plans[at].Total = over
	case 3:
		plans[at].Width = anyOf(r, widthsThatAreNone()...)
	case 4:
		plans[at].Depth = anyOf(r, farNumbers()...)
	}
	return plans
}

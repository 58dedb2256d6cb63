package cert_test

import (
	"fmt"
	"math"
	"math/rand"
	"slices"
	"testing"

	"spillway/api"
	"spillway/cert"
)

// expectSame asks both ways round.
func expectSame(t *testing.T, name string, a, b api.Cert, want bool) {
	t.Helper()
	if cert.Same(a, b) != want || cert.Same(b, a) != want {
		t.Errorf("%s: Same: %v, %v; want %v", name, cert.Same(a, b), cert.Same(b, a), want)
	}
}

// P15.2: a certificate is the same as itself and as a copy.
func TestSameAsCopy(t *testing.T) {
	for _, n := range allModels() {
		c := fitting(n.m)
		expectSame(t, n.name, c, c, true)
		expectSame(t, n.name, c, copied(c), true)
	}
	expectSame(t, "example", exampleCert(), exampleCert(), true)
}

// numbersOfCert are all of a certificate's numbers, by what changes each; of the
// same certificate they come in the same order.
func numbersOfCert(c *api.Cert) []func(change func(n int64) int64) {
	var all []func(change func(n int64) int64)
	wide := func(at *int64) {
		all = append(all, func(change func(n int64) int64) { *at = change(*at) })
	}
	for i := range c.Ranges {
		wide(&c.Ranges[i].Lo)
		wide(&c.Ranges[i].Hi)
	}
	for _, plans := range c.Plans {
		for k := range plans {
			p := &plans[k]
			for _, at := range []*int{&p.Width, &p.Depth} {
				all = append(all, func(change func(n int64) int64) { *at = int(change(int64(*at))) })
			}
			for _, at := range []*int64{&p.Part.Lo, &p.Part.Hi, &p.Total.Lo, &p.Total.Hi} {
				wide(at)
			}
		}
	}
	return all
}

// changes make another number of each; some leave its low bits as they are.
func changes() []func(n int64) int64 {
	return []func(n int64) int64{
		func(n int64) int64 { return n + 1 },
		func(n int64) int64 { return n - 1 },
		func(n int64) int64 { return ^n },
		func(n int64) int64 { return n ^ 1<<8 },
		func(n int64) int64 { return n ^ 1<<16 },
		func(n int64) int64 { return n ^ 1<<32 },
		func(n int64) int64 { return n ^ math.MinInt64 },
	}
}

// P15.2: certificates that differ in one number alone aren't the same: each
// number of each span and plan, from the first to the last.
func TestOneNumberDiffers(t *testing.T) {
	for _, m := range []api.Model{denseExample(), everyKind(), idle(), mixed()} {
		c := fitting(m)
		if want := 2*len(c.Ranges) + 6*len(slices.Concat(c.Plans...)); len(numbersOfCert(&c)) != want {
			t.Fatalf("%d numbers; want %d", len(numbersOfCert(&c)), want)
		}
		for at := range numbersOfCert(&c) {
			for _, change := range changes() {
				other := copied(c)
				numbersOfCert(&other)[at](change)
				expectSame(t, fmt.Sprint("number ", at), c, other, false)
				expectSame(t, "a copy of it", other, copied(other), true)
			}
		}
	}
}

// P15.2: lists of other lengths, in front, behind, and with what is left over
// the same as zeros.
func TestLengthsDiffer(t *testing.T) {
	c := fitting(everyKind())
	last := len(c.Plans) - 1
	for i, do := range []func(c *api.Cert){
		func(c *api.Cert) { c.Ranges = c.Ranges[1:] },
		func(c *api.Cert) { c.Ranges = c.Ranges[:len(c.Ranges)-1] },
		func(c *api.Cert) { c.Ranges = append(c.Ranges, api.Span{}) },
		func(c *api.Cert) { c.Ranges = append(c.Ranges, c.Ranges...) },
		func(c *api.Cert) { c.Ranges = nil },
		func(c *api.Cert) { c.Plans = c.Plans[1:] },
		func(c *api.Cert) { c.Plans = c.Plans[:last] },
		func(c *api.Cert) { c.Plans = append(c.Plans, nil) },
		func(c *api.Cert) { c.Plans = append(c.Plans, []api.Chan{}) },
		func(c *api.Cert) { c.Plans = append(c.Plans, c.Plans...) },
		func(c *api.Cert) { c.Plans = nil },
		func(c *api.Cert) { c.Plans[0] = make([]api.Chan, 1) },
		func(c *api.Cert) { c.Plans[1] = c.Plans[1][1:] },
		func(c *api.Cert) { c.Plans[1] = c.Plans[1][:2] },
		func(c *api.Cert) { c.Plans[1] = nil },
		func(c *api.Cert) { c.Plans[1] = append(c.Plans[1], api.Chan{}) },
		func(c *api.Cert) { c.Plans[last] = c.Plans[last][:1] },
		func(c *api.Cert) { c.Plans[last] = append(c.Plans[last], api.Chan{}) },
		// The same plans one behind the other, in other lists.
		func(c *api.Cert) { c.Plans[0], c.Plans[1] = c.Plans[1], c.Plans[0] },
		func(c *api.Cert) { c.Plans[1], c.Plans[2] = c.Plans[1][:2], c.Plans[1][2:] },
		func(c *api.Cert) { c.Plans = [][]api.Chan{slices.Concat(c.Plans...)} },
	} {
		expectSame(t, fmt.Sprint("lengths, ", i), c, turned(c, do), false)
	}
}

// P15.2: the same spans, or the same plans, in another order.
func TestOrderDiffers(t *testing.T) {
	c := fitting(everyKind())
	for i, do := range []func(c *api.Cert){
		func(c *api.Cert) { c.Ranges[0], c.Ranges[1] = c.Ranges[1], c.Ranges[0] },
		func(c *api.Cert) { slices.Reverse(c.Ranges) },
		func(c *api.Cert) { slices.Reverse(c.Plans) },
		func(c *api.Cert) { c.Plans[7], c.Plans[8] = c.Plans[8], c.Plans[7] },
		func(c *api.Cert) { slices.Reverse(c.Plans[1]) },
		func(c *api.Cert) { c.Plans[8][0], c.Plans[8][1] = c.Plans[8][1], c.Plans[8][0] },
		func(c *api.Cert) { p := &c.Plans[1][0]; p.Part, p.Total = p.Total, p.Part },
		func(c *api.Cert) { p := &c.Plans[1][0]; p.Width, p.Depth = p.Depth, p.Width },
		func(c *api.Cert) { s := &c.Plans[8][1].Part; s.Lo, s.Hi = s.Hi, s.Lo },
	} {
		expectSame(t, fmt.Sprint("order, ", i), c, turned(c, do), false)
	}
}

// P15.2, rule 6: nil and empty lists are one; spare room doesn't count. But a
// list of lists that are empty isn't an empty one.
func TestNilAndEmpty(t *testing.T) {
	none := []api.Cert{
		{}, {Ranges: []api.Span{}}, {Plans: [][]api.Chan{}}, {Ranges: []api.Span{}, Plans: [][]api.Chan{}},
		{Ranges: exampleCert().Ranges[:0], Plans: exampleCert().Plans[:0]},
	}
	empty := []api.Cert{{Plans: [][]api.Chan{nil}}, {Plans: [][]api.Chan{{}}}, {Ranges: []api.Span{}, Plans: [][]api.Chan{make([]api.Chan, 3)[:0]}}}
	for _, a := range none {
		for _, b := range none {
			expectSame(t, "none", a, b, true)
		}
		for _, b := range empty {
			expectSame(t, "none and a list of nothing", a, b, false)
		}
	}
	for _, a := range empty {
		for _, b := range empty {
			expectSame(t, "lists of nothing", a, b, true)
		}
		expectSame(t, "two of them", a, api.Cert{Plans: [][]api.Chan{nil, nil}}, false)
	}
	c := fitting(everyKind())
	other := turned(c, func(c *api.Cert) {
		c.Plans[0], c.Plans[2] = []api.Chan{}, make([]api.Chan, 0, 7)
	})
	expectSame(t, "lists of ops that don't reduce", c, other, true)
	expectSame(t, "room to spare", c, roomyCert(c), true)
}

// P15.2: of any two, of no model's form, of any numbers.
func TestSameOfAny(t *testing.T) {
	var all []api.Cert
	for _, s := range list(span(0, 0), span(1, 0), span(math.MinInt64, math.MaxInt64), span(math.MaxInt64, math.MinInt64)) {
		for _, n := range []int{0, 16, math.MinInt, math.MaxInt} {
			p := api.Chan{Width: n, Depth: -n, Part: s, Total: span(s.Hi, s.Lo)}
			all = append(all,
				api.Cert{Ranges: list(s, s), Plans: [][]api.Chan{{p}}},
				api.Cert{Ranges: list(s), Plans: [][]api.Chan{{p, p}, {p}}},
				api.Cert{Ranges: make([]api.Span, 100), Plans: [][]api.Chan{{p}, {p, p}}},
			)
		}
	}
	for _, a := range all {
		for _, b := range all {
			expectSame(t, "any", a, b, secondSame(a, b))
		}
	}
}

// P15.2: held against the second reading.
func TestSameSecondReading(t *testing.T) {
	r := rand.New(rand.NewSource(1520))
	counts := map[bool]int{}
	for range 20000 {
		m := anyModel(r, 4)
		a := anyCert(r, m)
		b := copied(a)
		for range r.Intn(3) {
			disturbCert(r, &b)
		}
		want := secondSame(a, b)
		counts[want]++
		expectSame(t, "second reading", a, b, want)
		if t.Failed() {
			t.Fatalf("%+v\n%+v", a, b)
		}
	}
	if min(counts[true], counts[false]) < 2000 {
		t.Errorf("%v", counts)
	}
}

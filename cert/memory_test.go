package cert_test

import (
	"reflect"
	"slices"
	"testing"

	"spillway/api"
	"spillway/cert"
)

const mark = 99

// roomyList has the same numbers with spare room behind them, marked.
func roomyList[T any](list []T, marked T) []T {
	wide := slices.Repeat([]T{marked}, len(list)+5)
	return wide[:copy(wide, list)]
}

// roomy has the same numbers with spare room behind every list, all marked.
func roomy(m api.Model) api.Model {
	m.Ops = roomyList(m.Ops, api.Op{Kind: mark})
	for i, op := range m.Ops {
		m.Ops[i].Weights, m.Ops[i].Bias = roomyList(op.Weights, mark), roomyList(op.Bias, mark)
	}
	return m
}

// everything is the model with its lists' spare room, all copied.
func everything(m api.Model) api.Model {
	m.Ops = slices.Clone(m.Ops[:cap(m.Ops)])
	for i, op := range m.Ops {
		m.Ops[i].Weights = slices.Clone(op.Weights[:cap(op.Weights)])
		m.Ops[i].Bias = slices.Clone(op.Bias[:cap(op.Bias)])
	}
	return m
}

// roomyCert has the same spans and plans with spare room behind every list, all
// marked.
func roomyCert(c api.Cert) api.Cert {
	c.Ranges = roomyList(c.Ranges, span(mark, -mark))
	c.Plans = roomyList(c.Plans, []api.Chan{{Width: mark}})
	for i, plans := range c.Plans {
		c.Plans[i] = roomyList(plans, api.Chan{Width: mark, Depth: -mark})
	}
	return c
}

// allOfCert is the certificate with its lists' spare room, all copied.
func allOfCert(c api.Cert) api.Cert {
	c.Ranges = slices.Clone(c.Ranges[:cap(c.Ranges)])
	c.Plans = slices.Clone(c.Plans[:cap(c.Plans)])
	for i, plans := range c.Plans {
		c.Plans[i] = slices.Clone(plans[:cap(plans)])
	}
	return c
}

// certsOfAllSorts are such that have the model's form and cost something, and
// such with every fault.
func certsOfAllSorts(m api.Model) []api.Cert {
	good := fitting(m)
	all := []api.Cert{{}, good, costing(m, func(_, _, length int) (int, int) { return 32, length })}
	for _, do := range []func(c *api.Cert){
		func(c *api.Cert) { c.Ranges = c.Ranges[1:] },
		func(c *api.Cert) { c.Plans = append(c.Plans, nil) },
		func(c *api.Cert) { c.Ranges[len(c.Ranges)-1] = span(1, 0) },
		func(c *api.Cert) { c.Plans[len(c.Plans)-1] = make([]api.Chan, 1025) },
		func(c *api.Cert) { *places(m)[0].of(*c) = api.Chan{Part: span(1, 0)} },
		func(c *api.Cert) { places(m)[0].of(*c).Width = 7 },
		func(c *api.Cert) { places(m)[0].of(*c).Depth = 0 },
	} {
		all = append(all, turned(good, do))
	}
	return all
}

// Rule 7: nothing that is handed in is changed, its spare room included, be it
// answered with a fault or without.
func TestNothingIsChanged(t *testing.T) {
	faulty := everyKind()
	faulty.Ops[8].Lo = 128
	for _, n := range []named{{"the example", denseExample()}, {"every kind", everyKind()}, {"skipping", skipping()}, {"sides", sides()}, {"64 ops", mixed()}, {"faulty", faulty}} {
		m := roomy(n.m)
		before := everything(m)
		for i, plain := range certsOfAllSorts(n.m) {
			c := roomyCert(plain)
			other := roomyCert(certsOfAllSorts(n.m)[(i+1)%3])
			kept, keptOther := allOfCert(c), allOfCert(other)
			cert.Form(m, c)
			cert.Cost(m, c)
			cert.Same(c, other)
			cert.Same(c, roomyCert(c))
			if !reflect.DeepEqual(kept, allOfCert(c)) || !reflect.DeepEqual(keptOther, allOfCert(other)) {
				t.Errorf("%s: certificate %d is changed", n.name, i)
			}
		}
		if !reflect.DeepEqual(before, everything(m)) {
			t.Errorf("%s: the model is changed", n.name)
		}
	}
}

// Rule 7: what lies in the spare room isn't read: a list's length alone counts.
func TestSpareRoomIsNotRead(t *testing.T) {
	for _, n := range allModels()[:6] {
		c := fitting(n.m)
		want, f := secondCost(n.m, c)
		expectForm(t, n.name, roomy(n.m), roomyCert(c), api.Fault{})
		expectCost(t, n.name, roomy(n.m), roomyCert(c), want, f)
		expectSame(t, n.name, c, roomyCert(c), true)
	}
}

// Rule 7, rule 8: nothing is kept: what is changed in a certificate or a model
// is seen in the next call's answer, and a fault leaves nothing behind.
func TestNothingIsKept(t *testing.T) {
	m, c := denseExample(), exampleCert()
	narrow, wide := api.Track{Muls16: 2, Adds16: 2, Adds32: 1}, api.Track{Muls32: 2, Adds32: 2}
	plan := &c.Plans[0][0]
	for range 2 {
		expectCost(t, "as it was", m, c, narrow, api.Fault{})
		expectSame(t, "as it was", c, exampleCert(), true)
		plan.Width = 32
		expectCost(t, "wide", m, c, wide, api.Fault{})
		expectSame(t, "wide", c, exampleCert(), false)
		plan.Depth = 1
		expectCost(t, "no such depth", m, c, api.Track{}, api.Fault{Err: api.ErrDepth, Op: 1, Chan: 1})
		plan.Width, plan.Depth, plan.Part.Lo = 16, 2, 31
		expectNoForm(t, "no span", m, c, api.Fault{Err: api.ErrSpan, Op: 1, Chan: 1})
		plan.Part.Lo = -20
		c.Ranges[1].Hi = 128
		expectNoForm(t, "no span of values", m, c, api.Fault{Err: api.ErrSpan, Op: 1})
		c.Ranges[1].Hi = 31
		m.Out = 5
		expectNoForm(t, "no such output", m, c, api.Fault{Err: api.ErrPlace})
		m.Out = 1
		expectForm(t, "again", m, c, api.Fault{})
	}
}

// Rule 6: lists of a model and of a certificate that are empty are as nil ones.
func TestEmptyListsAreNil(t *testing.T) {
	m, c := everyKind(), fitting(everyKind())
	want, _ := secondCost(m, c)
	for i := range m.Ops {
		if m.Ops[i].Weights == nil {
			m.Ops[i].Weights, m.Ops[i].Bias = []int16{}, []int32{}
		}
		if c.Plans[i] == nil {
			c.Plans[i] = []api.Chan{}
		}
	}
	expectForm(t, "empty", m, c, api.Fault{})
	expectCost(t, "empty", m, c, want, api.Fault{})
}

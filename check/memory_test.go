package check_test

import (
	"reflect"
	"slices"
	"testing"

	"spillway/api"
	"spillway/check"
)

const mark = 99

// roomyList has the same numbers with spare room behind them, marked.
func roomyList[T any](list []T, marked T) []T {
	wide := slices.Repeat([]T{marked}, len(list)+5)
	return wide[:copy(wide, list)]
}

// roomy has the same numbers with spare room behind every list, all marked.
func roomy(m api.Model) api.Model {
	m.Ops = roomyList(m.Ops, api.Op{Kind: mark})
	for i, op := range m.Ops {
		m.Ops[i].Weights, m.Ops[i].Bias = roomyList(op.Weights, mark), roomyList(op.Bias, mark)
	}
	return m
}

// everything is the model with its lists' spare room, all copied.
func everything(m api.Model) api.Model {
	m.Ops = slices.Clone(m.Ops[:cap(m.Ops)])
	for i, op := range m.Ops {
		m.Ops[i].Weights = slices.Clone(op.Weights[:cap(op.Weights)])
		m.Ops[i].Bias = slices.Clone(op.Bias[:cap(op.Bias)])
	}
	return m
}

// roomyCert has the same spans and plans with spare room behind every list, all
// marked.
func roomyCert(c api.Cert) api.Cert {
	c.Ranges = roomyList(c.Ranges, span(mark, -mark))
	c.Plans = roomyList(c.Plans, []api.Chan{{Width: mark}})
	for i, plans := range c.Plans {
		c.Plans[i] = roomyList(plans, api.Chan{Width: mark, Depth: -mark})
	}
	return c
}

// allOfCert is the certificate with its lists' spare room, all copied.
func allOfCert(c api.Cert) api.Cert {
	c.Ranges = slices.Clone(c.Ranges[:cap(c.Ranges)])
	c.Plans = slices.Clone(c.Plans[:cap(c.Plans)])
	for i, plans := range c.Plans {
		c.Plans[i] = slices.Clone(plans[:cap(plans)])
	}
	return c
}

// certsOfAllSorts are such that hold, and such with every fault.
func certsOfAllSorts(m api.Model) []api.Cert {
	good, _ := planned(m)
	all := []api.Cert{{}, good}
	for _, one := range some(turns(m, good), 40) {
		all = append(all, turned(good, one.do))
	}
	for _, do := range []func(c *api.Cert){
		func(c *api.Cert) { c.Ranges = c.Ranges[1:] },
		func(c *api.Cert) { c.Plans = append(c.Plans, nil) },
		func(c *api.Cert) { c.Ranges[len(c.Ranges)-1] = span(1, 0) },
		func(c *api.Cert) { c.Plans[len(c.Plans)-1] = make([]api.Chan, 1025) },
	} {
		all = append(all, turned(good, do))
	}
	return all
}

// Rule 7: nothing that is handed in is changed, its spare room included, be it
// answered with a fault or without.
func TestNothingIsChanged(t *testing.T) {
	faulty := everyKind()
	faulty.Ops[8].Lo = 128
	for _, n := range []named{{"the example", denseExample()}, {"every kind", everyKind()}, {"skipping", skipping()}, {"adding", adding()}, {"mixed widths", mixedWidths()}, {"faulty", faulty}} {
		m := roomy(n.m)
		before := everything(m)
		for i, plain := range certsOfAllSorts(n.m) {
			c := roomyCert(plain)
			kept := allOfCert(c)
			if got, want := check.Check(m, c), secondCheck(n.m, plain); got != want {
				t.Errorf("%s: certificate %d: %v; want %v", n.name, i, got, want)
			}
			if !reflect.DeepEqual(kept, allOfCert(c)) {
				t.Errorf("%s: certificate %d is changed", n.name, i)
			}
		}
		for op := range len(m.Ops) + 2 {
			for ch := range 5 {
				for _, s := range rightAndWrong() {
					for _, p := range anyPlans() {
						check.Chan(m, op, ch, s, p)
					}
				}
			}
		}
		if !reflect.DeepEqual(before, everything(m)) {
			t.Errorf("%s: the model is changed", n.name)
		}
	}
}

// Rule 7, rule 8: nothing is kept: what is changed in a certificate or a model
// is seen in the next call's answer, and a fault leaves nothing behind.
func TestNothingIsKept(t *testing.T) {
	m, c := denseExample(), exampleCert()
	plan := &c.Plans[0][0]
	ofPlan := func(e api.Errno) api.Fault { return api.Fault{Err: e, Op: 1, Chan: 1} }
	for range 2 {
		expectCheck(t, "as it was", m, c, api.Fault{})
		plan.Width = 32
		expectCheck(t, "wide", m, c, ofPlan(api.ErrPart))
		expectChan(t, "wide", m, 1, 1, span(0, 10), *plan, api.ErrPart)
		plan.Part = span(-19, 31)
		expectCheck(t, "wide", m, c, api.Fault{})
		plan.Depth = 1
		expectCheck(t, "no such depth", m, c, ofPlan(api.ErrDepth))
		plan.Width, plan.Depth, plan.Part = 16, 2, span(-20, 30)
		c.Ranges[0].Hi = 11
		expectCheck(t, "a wider range", m, c, ofPlan(api.ErrPart))
		c.Ranges[0].Hi = 10
		m.Ops[0].Weights[0] = 4
		expectCheck(t, "another weight", m, c, ofPlan(api.ErrPart))
		expectChan(t, "another weight", m, 1, 1, span(0, 7), *plan, api.OK)
		m.Ops[0].Weights[0], m.Ops[0].Bias[0] = 3, 2
		expectCheck(t, "another bias", m, c, ofPlan(api.ErrTotal))
		m.Ops[0].Bias[0], m.Ops[0].Zero = 1, 1
		expectCheck(t, "another Zero", m, c, api.Fault{Err: api.ErrClaim, Op: 1})
		m.Ops[0].Zero, m.Lo = 0, -1
		expectCheck(t, "another declared range", m, c, api.Fault{Err: api.ErrClaim})
		m.Lo, m.Out = 0, 5
		expectCheck(t, "no such output", m, c, api.Fault{Err: api.ErrPlace})
		expectChan(t, "no such output", m, 1, 1, span(0, 10), *plan, api.ErrPlace)
		m.Out = 1
		expectCheck(t, "again", m, c, api.Fault{})
		expectChan(t, "again", m, 1, 1, span(0, 10), *plan, api.OK)
	}
}

// Rule 6: lists of a model and of a certificate that are empty are as nil ones.
func TestEmptyListsAreNil(t *testing.T) {
	m := everyKind()
	c, _ := planned(m)
	for i := range m.Ops {
		if m.Ops[i].Weights == nil {
			m.Ops[i].Weights, m.Ops[i].Bias = []int16{}, []int32{}
		}
		if c.Plans[i] == nil {
			c.Plans[i] = []api.Chan{}
		}
	}
	expectCheck(t, "empty", m, c, api.Fault{})
	c.Plans[8][1].Total.Lo++
	expectCheck(t, "empty", m, c, api.Fault{Err: api.ErrTotal, Op: 9, Chan: 2})
}

package plan_test

import (
	"math"
	"reflect"
	"slices"
	"testing"

	"spillway/api"
	"spillway/plan"
)

const mark = 99

// roomyList has the same numbers with spare room behind them, marked.
func roomyList[T any](list []T, marked T) []T {
	wide := slices.Repeat([]T{marked}, len(list)+5)
	return wide[:copy(wide, list)]
}

// roomy has the same numbers with spare room behind every list, all marked.
func roomy(m api.Model) api.Model {
	m.Ops = roomyList(m.Ops, api.Op{Kind: mark})
	for i, op := range m.Ops {
		m.Ops[i].Weights, m.Ops[i].Bias = roomyList(op.Weights, mark), roomyList(op.Bias, mark)
	}
	return m
}

// everything is the model with its lists' spare room, all copied.
func everything(m api.Model) api.Model {
	m.Ops = slices.Clone(m.Ops[:cap(m.Ops)])
	for i, op := range m.Ops {
		m.Ops[i].Weights = slices.Clone(op.Weights[:cap(op.Weights)])
		m.Ops[i].Bias = slices.Clone(op.Bias[:cap(op.Bias)])
	}
	return m
}

// sorts are models that fit, that don't, and that aren't well-formed.
func sorts() []named {
	faulty, beyond := everyKind(), mixedWidths()
	faulty.Ops[8].Lo = 128
	beyond.Ops[1].Bias = []int32{0, math.MinInt32}
	return append(smallModels(), named{"faulty", faulty}, named{"beyond 32 bits", beyond})
}

// Rule 7: nothing that is handed in is changed, its spare room included, be it
// answered with a fault or without; and the spare room is nothing.
func TestNothingIsChanged(t *testing.T) {
	for _, n := range sorts() {
		m := roomy(n.m)
		before := everything(m)
		holdModel(t, n.name, m)
		if !reflect.DeepEqual(before, everything(m)) {
			t.Errorf("%s: the model is changed", n.name)
		}
	}
}

// spoil sets all that a certificate has, its lists' spare room too.
func spoil(c api.Cert) {
	for _, plans := range c.Plans {
		spoilList(plans, api.Chan{Width: mark})
	}
	spoilList(c.Ranges, span(mark, -mark))
	spoilList(c.Plans, []api.Chan{{Width: mark}})
}

func spoilList[T any](list []T, to T) {
	list = list[:cap(list)]
	for i := range list {
		list[i] = to
	}
}

// Rules 7 and 8: an answer is new memory: what is done to it is seen neither in
// the model nor in another answer, and two calls answer the same.
func TestAnswersAreNew(t *testing.T) {
	for _, n := range sorts() {
		before := everything(n.m)
		first, f := plan.Plan(n.m)
		second, g := plan.Plan(n.m)
		if f != g || f != plan.Fits(n.m) || !reflect.DeepEqual(first, second) {
			t.Errorf("%s: %v %v, then %v %v", n.name, first, f, second, g)
		}
		spoil(first)
		if f == (api.Fault{}) && !reflect.DeepEqual(listed(second), listed(secondPlan(n.m))) {
			t.Errorf("%s: two answers share memory", n.name)
		}
		if !reflect.DeepEqual(before, everything(n.m)) {
			t.Errorf("%s: an answer shares memory with the model", n.name)
		}
		holdModel(t, n.name, n.m)
	}
}

// Rule 7: no two lists of an answer share any memory, their spare room too.
func TestListsShareNothing(t *testing.T) {
	for _, n := range smallModels() {
		want := secondPlan(n.m)
		for i := range n.m.Ops {
			c := planned(t, n.name, n.m)
			spoilList(c.Plans[i], api.Chan{Width: mark})
			c.Plans[i] = want.Plans[i]
			if !reflect.DeepEqual(listed(c), listed(want)) {
				t.Errorf("%s: the plans of op %d share memory", n.name, i+1)
			}
		}
		c := planned(t, n.name, n.m)
		spoilList(c.Ranges, span(mark, -mark))
		c.Ranges = want.Ranges
		if !reflect.DeepEqual(listed(c), listed(want)) {
			t.Errorf("%s: the ranges share memory", n.name)
		}
	}
}

// Rules 7 and 8: nothing is kept: what is changed in a model is seen in the next
// call's answer, and a fault leaves nothing behind.
func TestNothingIsKept(t *testing.T) {
	m := denseExample()
	for range 2 {
		expectPlan(t, "as it was", m, exampleCert())
		m.Ops[0].Weights[0] = 4
		expectPlan(t, "another weight", m, api.Cert{Ranges: list(span(0, 10), span(-19, 41)), Plans: [][]api.Chan{chans(narrow(2, span(-20, 40), span(-19, 41)))}})
		m.Ops[0].Weights[0], m.Ops[0].Bias[0] = 3, math.MaxInt32
		expectFault(t, "a great bias", m, tooWideAt(1, 1))
		m.Ops[0].Bias[0], m.Lo = 1, 5
		expectPlan(t, "another declared range", m, api.Cert{Ranges: list(span(5, 10), span(-4, 21)), Plans: [][]api.Chan{chans(narrow(2, span(-20, 30), span(-4, 21)))}})
		m.Lo, m.Out = 0, 5
		expectFault(t, "no such output", m, api.Fault{Err: api.ErrPlace})
		m.Out = 0
		expectPlan(t, "another output", m, exampleCert())
		m.Out = 1
	}
}

// Rule 6: lists of a model that are empty are as nil ones.
func TestEmptyListsAreNil(t *testing.T) {
	m := everyKind()
	for i := range m.Ops {
		if m.Ops[i].Weights == nil {
			m.Ops[i].Weights, m.Ops[i].Bias = []int16{}, []int32{}
		}
	}
	expectPlan(t, "empty", m, secondPlan(everyKind()))
	none := star(of(2, 2, 2))
	none.Ops = []api.Op{}
	expectPlan(t, "no ops", none, api.Cert{Ranges: list(span(-128, 127))})
}

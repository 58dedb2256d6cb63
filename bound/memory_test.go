package bound_test

import (
	"reflect"
	"slices"
	"testing"

	"spillway/api"
	"spillway/bound"
)

const mark = 99

// roomyList has the same numbers with spare room behind them, marked.
func roomyList[T int16 | int32](list []T) []T {
	wide := slices.Repeat([]T{mark}, len(list)+5)
	return wide[:copy(wide, list)]
}

// roomy has the same numbers with spare room behind every list, all marked.
func roomy(m api.Model) api.Model {
	ops := make([]api.Op, len(m.Ops)+3)
	for i := range ops {
		ops[i].Kind = mark
	}
	copy(ops, m.Ops)
	for i := range m.Ops {
		ops[i].Weights, ops[i].Bias = roomyList(ops[i].Weights), roomyList(ops[i].Bias)
	}
	m.Ops = ops[:len(m.Ops)]
	return m
}

// whole is the model with its lists' spare room, all copied.
func whole(m api.Model) api.Model {
	m.Ops = slices.Clone(m.Ops[:cap(m.Ops)])
	for i, op := range m.Ops {
		m.Ops[i].Weights = slices.Clone(op.Weights[:cap(op.Weights)])
		m.Ops[i].Bias = slices.Clone(op.Bias[:cap(op.Bias)])
	}
	return m
}

// Rule 7: nothing that is handed in is changed, its spare room included, be it
// answered with an error or without.
func TestNothingIsChanged(t *testing.T) {
	faulty := everyKind()
	faulty.Ops[8].Lo = 128
	for _, n := range []named{{"every kind", everyKind()}, {"skipping", skipping()}, {"sides", sides()}, {"faulty", faulty}} {
		m := roomy(n.m)
		before := whole(m)
		for op := range len(m.Ops) + 2 {
			for ch := range 6 {
				for _, s := range rightAndWrong() {
					bound.Total(m, op, ch, s)
					bound.Run(m, op, ch, s)
					bound.Product(m, op, ch, s)
					for depth := range 4 {
						bound.Part(m, op, ch, s, depth)
					}
				}
			}
		}
		if !reflect.DeepEqual(before, whole(m)) {
			t.Errorf("%s: the model is changed", n.name)
		}
	}
}

// Rule 7, rule 8: nothing is kept: what is changed in a model is seen in the
// next call's answer, and an error leaves nothing behind.
func TestNothingIsKept(t *testing.T) {
	m, s := denseExample(), span(-1, 2)
	expectTotal(t, "as it was", m, 1, 1, s, span(1-3-4, 1+6+2), api.OK)
	expectPart(t, "as it was", m, 1, 1, s, 2, span(-7, 8), api.OK)
	m.Ops[0].Weights[1], m.Ops[0].Bias[0] = 7, -5
	expectTotal(t, "changed", m, 1, 1, s, span(-5-10, -5+20), api.OK)
	expectRun(t, "changed", m, 1, 1, s, span(-15, 15), api.OK)
	expectPart(t, "changed", m, 1, 1, s, 2, span(-10, 20), api.OK)
	expectProduct(t, "changed", m, 1, 1, s, span(-7, 14), api.OK)
	expectError(t, "no such op", m, 2, 1, s, api.ErrPlace)
	expectError(t, "no span of values", m, 1, 1, span(2, 1), api.ErrSpan)
	expectPart(t, "no depth", m, 1, 1, s, 3, api.Span{}, api.ErrDepth)
	expectTotal(t, "again", m, 1, 1, s, span(-15, 15), api.OK)
	expectPart(t, "again", m, 1, 1, s, 2, span(-10, 20), api.OK)
}

// Rule 6: a list that is empty is one that is nil.
func TestEmptyListsAreNil(t *testing.T) {
	for _, m := range []api.Model{everyKind(), emptyLists(everyKind())} {
		expectTotal(t, "average", m, 6, 3, span(-4, 3), span(-8, 6), api.OK)
		expectPart(t, "average", m, 6, 3, span(-4, 3), 1, span(-4, 3), api.OK)
	}
	for _, ops := range [][]api.Op{nil, {}} {
		expectError(t, "no ops", star(of(1, 1, 1), ops...), 1, 1, span(0, 1), api.ErrPlace)
	}
}

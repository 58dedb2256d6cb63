package norm_test

import (
	"reflect"
	"slices"
	"testing"

	"spillway/api"
	"spillway/norm"
)

const mark = 99

// roomyList has the same numbers with spare room behind them, marked.
func roomyList[T int16 | int32](list []T) []T {
	wide := slices.Repeat([]T{mark}, len(list)+5)
	return wide[:copy(wide, list)]
}

// roomy has the same numbers with spare room behind every list, all marked.
func roomy(m api.Model) api.Model {
	ops := make([]api.Op, len(m.Ops)+3)
	for i := range ops {
		ops[i].Kind = mark
	}
	copy(ops, m.Ops)
	for i := range m.Ops {
		ops[i].Weights, ops[i].Bias = roomyList(ops[i].Weights), roomyList(ops[i].Bias)
	}
	m.Ops = ops[:len(m.Ops)]
	return m
}

// whole is the model with its lists' spare room, all copied.
func whole(m api.Model) api.Model {
	m.Ops = slices.Clone(m.Ops[:cap(m.Ops)])
	for i, op := range m.Ops {
		m.Ops[i].Weights = slices.Clone(op.Weights[:cap(op.Weights)])
		m.Ops[i].Bias = slices.Clone(op.Bias[:cap(op.Bias)])
	}
	return m
}

// Rule 7: nothing that is handed in is changed, its spare room included, be it
// answered with an error or without.
func TestNothingIsChanged(t *testing.T) {
	faulty := everyKind()
	faulty.Ops[8].Lo = 128
	for _, n := range []named{{"every kind", everyKind()}, {"skipping", skipping()}, {"sides", sides()}, {"faulty", faulty}} {
		m := roomy(n.m)
		before := whole(m)
		for op := range len(m.Ops) + 2 {
			for ch := range 6 {
				norm.L1(m, op, ch)
				norm.Signed(m, op, ch)
				for _, s := range rightAndWrong() {
					norm.Quick(m, op, ch, s)
				}
			}
		}
		if !reflect.DeepEqual(before, whole(m)) {
			t.Errorf("%s: the model is changed", n.name)
		}
	}
}

// Rule 7, rule 8: nothing is kept: what is changed in a model is seen in the
// next call's answer, and an error leaves nothing behind.
func TestNothingIsKept(t *testing.T) {
	m := denseExample()
	expectSums(t, "as it was", m, 1, 1, 3, -2, api.OK)
	expectQuick(t, "as it was", m, 1, 1, span(-1, 2), span(-9, 11), api.OK)
	m.Ops[0].Weights[1], m.Ops[0].Bias[0] = 7, -5
	expectSums(t, "changed", m, 1, 1, 10, 0, api.OK)
	expectQuick(t, "changed", m, 1, 1, span(-1, 2), span(-25, 15), api.OK)
	expectError(t, "no such op", m, 2, 1, span(-1, 2), api.ErrPlace)
	expectQuick(t, "no span of values", m, 1, 1, span(2, 1), api.Span{}, api.ErrSpan)
	expectQuick(t, "again", m, 1, 1, span(-1, 2), span(-25, 15), api.OK)
}

// Rule 6: a list that is empty is one that is nil.
func TestEmptyListsAreNil(t *testing.T) {
	for _, m := range []api.Model{everyKind(), emptyLists(everyKind())} {
		expectSums(t, "average", m, 6, 3, 2, 0, api.OK)
		expectQuick(t, "average", m, 6, 3, span(-4, 3), span(-8, 8), api.OK)
	}
	for _, ops := range [][]api.Op{nil, {}} {
		expectError(t, "no ops", star(of(1, 1, 1), ops...), 1, 1, span(0, 1), api.ErrPlace)
	}
}

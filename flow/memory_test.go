package flow_test

import (
	"reflect"
	"slices"
	"testing"

	"spillway/api"
	"spillway/flow"
)

const mark = 99

// roomyList has the same numbers with spare room behind them, marked.
func roomyList[T any](list []T, marked T) []T {
	wide := slices.Repeat([]T{marked}, len(list)+5)
	return wide[:copy(wide, list)]
}

// roomy has the same numbers with spare room behind every list, all marked.
func roomy(m api.Model) api.Model {
	m.Ops = roomyList(m.Ops, api.Op{Kind: mark})
	for i, op := range m.Ops {
		m.Ops[i].Weights, m.Ops[i].Bias = roomyList(op.Weights, mark), roomyList(op.Bias, mark)
	}
	return m
}

// everything is the model with its lists' spare room, all copied.
func everything(m api.Model) api.Model {
	m.Ops = slices.Clone(m.Ops[:cap(m.Ops)])
	for i, op := range m.Ops {
		m.Ops[i].Weights = slices.Clone(op.Weights[:cap(op.Weights)])
		m.Ops[i].Bias = slices.Clone(op.Bias[:cap(op.Bias)])
	}
	return m
}

// Rule 7: nothing that is handed in is changed, its spare room included, be it
// answered with an error or without.
func TestNothingIsChanged(t *testing.T) {
	faulty := everyKind()
	faulty.Ops[8].Lo = 128
	for _, n := range []named{{"every kind", everyKind()}, {"adding", adding()}, {"skipping", skipping()}, {"sides", sides()}, {"faulty", faulty}} {
		m := roomy(n.m)
		before := everything(m)
		for op := range len(m.Ops) + 2 {
			for _, s := range list(span(0, 10), span(-128, 127), span(5, 4), span(5, 200)) {
				for count := range len(m.Ops) + 3 {
					ranges := roomyList(slices.Repeat(list(s), count), span(mark, -mark))
					kept := slices.Clone(ranges[:cap(ranges)])
					flow.Out(m, op, ranges)
					if !slices.Equal(kept, ranges[:cap(ranges)]) {
						t.Errorf("%s: op %d: the ranges are changed", n.name, op)
					}
				}
			}
		}
		flow.Spread(m)
		if !reflect.DeepEqual(before, everything(m)) {
			t.Errorf("%s: the model is changed", n.name)
		}
	}
}

// Rule 7: what Spread answers is new memory, its spare room too: what is
// written into one answer is seen in no other.
func TestSpreadIsNew(t *testing.T) {
	for _, n := range []named{{"every kind", everyKind()}, {"no ops", star(of(1, 1, 1))}, {"the example", denseExample()}} {
		want, _ := secondSpread(n.m)
		first, _ := flow.Spread(n.m)
		second, _ := flow.Spread(n.m)
		room := first[:cap(first)]
		for i := range room {
			room[i] = span(mark, -mark)
		}
		if !slices.Equal(second, want) {
			t.Errorf("%s: the answers share memory", n.name)
		}
		for _, s := range second[len(second):cap(second)] {
			if s == span(mark, -mark) {
				t.Errorf("%s: the answers share spare room", n.name)
			}
		}
		expectSpread(t, n.name, n.m, want, api.Fault{})
	}
}

// Rule 7, rule 8: nothing is kept: what is changed in a model or in the ranges
// is seen in the next call's answer, and an error leaves nothing behind.
func TestNothingIsKept(t *testing.T) {
	m := declaring(-1, 2, denseExample())
	ranges := list(span(-1, 2))
	expectOut(t, "as it was", m, 1, ranges, span(1-3-4, 1+6+2), api.OK)
	expectSpread(t, "as it was", m, list(span(-1, 2), span(-6, 9)), api.Fault{})
	m.Ops[0].Weights[1], m.Ops[0].Bias[0] = 7, -5
	expectOut(t, "changed", m, 1, ranges, span(-5-10, -5+20), api.OK)
	expectSpread(t, "changed", m, list(span(-1, 2), span(-15, 15)), api.Fault{})
	ranges[0] = span(3, 3)
	expectOut(t, "changed", m, 1, ranges, span(25, 25), api.OK)
	expectOut(t, "no such op", m, 2, ranges, api.Span{}, api.ErrPlace)
	ranges[0] = span(3, 2)
	expectOut(t, "no span of values", m, 1, ranges, api.Span{}, api.ErrSpan)
	expectOut(t, "no ranges", m, 1, ranges[:0], api.Span{}, api.ErrLens)
	m.Out = 5
	expectSpread(t, "no such output", m, nil, api.Fault{Err: api.ErrPlace})
	m.Out, ranges[0] = 1, span(3, 3)
	expectOut(t, "again", m, 1, ranges, span(25, 25), api.OK)
	expectSpread(t, "again", m, list(span(-1, 2), span(-15, 15)), api.Fault{})
}

// Rule 6: a list that is empty is one that is nil.
func TestEmptyListsAreNil(t *testing.T) {
	want, _ := secondSpread(everyKind())
	expectSpread(t, "nil", everyKind(), want, api.Fault{})
	expectSpread(t, "empty", emptyLists(everyKind()), want, api.Fault{})
	for _, ops := range [][]api.Op{nil, {}} {
		expectSpread(t, "no ops", star(of(1, 1, 1), ops...), list(span(-128, 127)), api.Fault{})
		expectOut(t, "no ops", star(of(1, 1, 1), ops...), 1, nil, api.Span{}, api.ErrPlace)
	}
	for _, ranges := range [][]api.Span{nil, {}} {
		expectOut(t, "no ranges", denseExample(), 1, ranges, api.Span{}, api.ErrLens)
	}
}

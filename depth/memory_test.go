package depth_test

import (
	"math"
	"reflect"
	"slices"
	"testing"

	"spillway/api"
	"spillway/depth"
)

const mark = 99

// roomyList has the same numbers with spare room behind them, marked.
func roomyList[T any](list []T, marked T) []T {
	wide := slices.Repeat([]T{marked}, len(list)+5)
	return wide[:copy(wide, list)]
}

// roomy has the same numbers with spare room behind every list, all marked.
func roomy(m api.Model) api.Model {
	m.Ops = roomyList(m.Ops, api.Op{Kind: mark})
	for i, op := range m.Ops {
		m.Ops[i].Weights, m.Ops[i].Bias = roomyList(op.Weights, mark), roomyList(op.Bias, mark)
	}
	return m
}

// everything is the model with its lists' spare room, all copied.
func everything(m api.Model) api.Model {
	m.Ops = slices.Clone(m.Ops[:cap(m.Ops)])
	for i, op := range m.Ops {
		m.Ops[i].Weights = slices.Clone(op.Weights[:cap(op.Weights)])
		m.Ops[i].Bias = slices.Clone(op.Bias[:cap(op.Bias)])
	}
	return m
}

// Rule 7: nothing that is handed in is changed, its spare room included, be it
// answered with an error or without; and the spare room is nothing.
func TestNothingIsChanged(t *testing.T) {
	faulty := everyKind()
	faulty.Ops[8].Lo = 128
	all := append(firstAndBehind(), named{"every kind", everyKind()}, named{"skipping", skipping()}, named{"mixed widths", mixedWidths()}, named{"faulty", faulty})
	for _, n := range all {
		m := roomy(n.m)
		before := everything(m)
		for op := range len(m.Ops) + 2 {
			for ch := range 5 {
				for _, s := range rightAndWrong() {
					holdChannel(t, n.name, m, op, ch, s)
					for _, k := range []int{0, 1, 2, math.MaxInt} {
						depth.Safe(m, op, ch, s, k)
					}
				}
			}
		}
		if !reflect.DeepEqual(before, everything(m)) {
			t.Errorf("%s: the model is changed", n.name)
		}
	}
}

// Rule 7, rule 8: nothing is kept: what is changed in a model is seen in the
// next call's answer, and an error leaves nothing behind.
func TestNothingIsKept(t *testing.T) {
	m, s := row(0, 200, 200), span(0, 127)
	for range 2 {
		expectSafe(t, "as it was", m, 1, 1, s, 2, false, api.OK)
		expectMost(t, "as it was", m, 1, 1, s, 1, api.OK)
		expectChoose(t, "as it was", m, 1, 1, s, narrow(1, span(0, 25400), span(0, 50800)), api.OK)
		m.Ops[0].Weights[1] = -200
		expectSafe(t, "another weight", m, 1, 1, s, 2, true, api.OK)
		expectMost(t, "another weight", m, 1, 1, s, 2, api.OK)
		expectChoose(t, "another weight", m, 1, 1, s, narrow(2, span(-25400, 25400), span(-25400, 25400)), api.OK)
		m.Ops[0].Weights[1] = 300
		expectMost(t, "a great weight", m, 1, 1, s, 0, api.OK)
		expectChoose(t, "a great weight", m, 1, 1, s, wide(2, span(0, 63500), span(0, 63500)), api.OK)
		m.Ops[0].Bias[0] = math.MaxInt32
		expectChoose(t, "a great bias", m, 1, 1, s, api.Chan{}, api.ErrWide)
		m.Ops[0].Weights[1], m.Ops[0].Bias[0], m.Out = 200, 0, 5
		expectError(t, "no such output", m, 1, 1, s, api.ErrPlace)
		m.Out = 1
	}
}

// Rule 8: the declared range plays no part, nor do the op's own range, its
// scale and its Zero.
func TestWhatPlaysNoPart(t *testing.T) {
	for _, n := range smallModels() {
		other := n.m
		other.Lo, other.Hi, other.Out = 5, 6, 0
		other.Ops = slices.Clone(n.m.Ops)
		for i := range other.Ops {
			op := &other.Ops[i]
			op.Lo, op.Hi = 1, 1
			if op.SA != (api.Scale{}) {
				op.SA, op.Zero = api.Scale{Mult: 7, Shift: 3}, 4
			}
		}
		for _, at := range some(places(n.m), 6) {
			holdChannel(t, n.name, other, at.op, at.ch, span(-100, 127))
			want, e := depth.Choose(n.m, at.op, at.ch, span(-100, 127))
			expectChoose(t, n.name, other, at.op, at.ch, span(-100, 127), want, e)
		}
	}
}

// Rule 6: lists of a model that are empty are as nil ones.
func TestEmptyListsAreNil(t *testing.T) {
	m := everyKind()
	for i := range m.Ops {
		if m.Ops[i].Weights == nil {
			m.Ops[i].Weights, m.Ops[i].Bias = []int16{}, []int32{}
		}
	}
	for _, at := range places(m) {
		holdChannel(t, "empty", m, at.op, at.ch, span(-100, 127))
		want, e := depth.Choose(everyKind(), at.op, at.ch, span(-100, 127))
		expectChoose(t, "empty", m, at.op, at.ch, span(-100, 127), want, e)
	}
}

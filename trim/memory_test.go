package trim_test

import (
	"reflect"
	"slices"
	"sync"
	"testing"

	"spillway/api"
	"spillway/trim"
)

const mark = 99

// roomyList has the same numbers with spare room behind them, marked.
func roomyList[T any](list []T, marked T) []T {
	wide := slices.Repeat([]T{marked}, len(list)+5)
	return wide[:copy(wide, list)]
}

// roomy has the same numbers with spare room behind every list, all marked.
func roomy(m api.Model) api.Model {
	m.Ops = roomyList(m.Ops, api.Op{Kind: mark})
	for i, op := range m.Ops {
		m.Ops[i].Weights, m.Ops[i].Bias = roomyList(op.Weights, mark), roomyList(op.Bias, mark)
	}
	return m
}

// everything is the model with its lists' spare room, all copied.
func everything(m api.Model) api.Model {
	m.Ops = slices.Clone(m.Ops[:cap(m.Ops)])
	for i, op := range m.Ops {
		m.Ops[i].Weights = slices.Clone(op.Weights[:cap(op.Weights)])
		m.Ops[i].Bias = slices.Clone(op.Bias[:cap(op.Bias)])
	}
	return m
}

// spoil overwrites a list, the room behind it too.
func spoil[T any](list []T, with T) {
	list = list[:cap(list)]
	for i := range list {
		list[i] = with
	}
}

// spoilModel overwrites every list of a model.
func spoilModel(m api.Model) {
	for _, op := range m.Ops[:cap(m.Ops)] {
		spoil(op.Weights, -4321)
		spoil(op.Bias, 4321)
	}
	spoil(m.Ops, api.Op{Kind: -1, A: -1, B: -1})
}

// inMemory are models of which some ops fall away, all of them, or none.
func inMemory() []named {
	var all []named
	for _, n := range []named{{"the example", threeOps()}, {"every kind", everyKind()}, {"adding", adding()}, {"skipping", skipping()}, {"sides", sides()}, {"no ops", star(of(2, 2, 2))}} {
		for out := range len(n.m.Ops) + 1 {
			all = append(all, named{n.name, from(out, n.m)})
		}
	}
	all = append(all, firstAndBehind()...)
	return append(all, greatModels()[0], greatModels()[4])
}

// Rule 7: nothing that is handed in is changed, its spare room included, be it
// answered with a fault or without; and the spare room is nothing.
func TestNothingIsChanged(t *testing.T) {
	faulty := everyKind()
	faulty.Ops[8].Lo = 128
	for _, n := range append(inMemory(), named{"faulty", faulty}) {
		m := roomy(n.m)
		before := everything(m)
		hold(t, n.name, m)
		if !reflect.DeepEqual(before, everything(m)) {
			t.Errorf("%s: the model is changed", n.name)
		}
	}
}

// P24.2, rules 7 and 8: an answer is new memory, its spare room too: what is done
// to it is seen neither in the model nor in another answer, and two calls answer
// the same.
func TestModelsAreNew(t *testing.T) {
	for _, n := range inMemory() {
		m := roomy(n.m)
		before := everything(m)
		want, _ := secondTrim(n.m)
		first, second := trimmed(t, n.name, m), trimmed(t, n.name, m)
		room := everything(second)
		spoilModel(first)
		if !reflect.DeepEqual(room, everything(second)) || !same(second, want) {
			t.Errorf("%s: two answers share memory", n.name)
		}
		if !reflect.DeepEqual(before, everything(m)) {
			t.Errorf("%s: an answer shares memory with the model", n.name)
		}
		expectTrim(t, n.name, m, want)
		spoilModel(m)
		if !reflect.DeepEqual(room, everything(second)) {
			t.Errorf("%s: an answer goes with the model", n.name)
		}
	}
}

// Rule 7: so is what Live answers.
func TestListsAreNew(t *testing.T) {
	for _, n := range inMemory() {
		want, _ := secondLive(n.m)
		first, _ := trim.Live(n.m)
		second, _ := trim.Live(n.m)
		room := slices.Clone(second[:cap(second)])
		for _, with := range []bool{true, false} {
			spoil(first, with)
			if !slices.Equal(room, second[:cap(second)]) || !slices.Equal(second, want) {
				t.Errorf("%s: two answers share memory", n.name)
			}
			expectLive(t, n.name, n.m, want...)
		}
	}
}

// sharing are models whose ops share their lists: those of one op are those of
// another, or a piece of them.
func sharing() []named {
	in := of(1, 1, 4)
	op := dense(in, 4)
	one := chain(in, slices.Repeat([]api.Op{op}, 6)...)
	m := chain(in, dense(in, 4), dense(in, 2), dense(of(1, 1, 2), 4))
	m.Ops[1].Weights, m.Ops[1].Bias = m.Ops[0].Weights[4:12], m.Ops[0].Bias[:2]
	m.Ops[2].Weights, m.Ops[2].Bias = m.Ops[0].Weights[:8], m.Ops[0].Bias
	return []named{{"one list", one}, {"pieces of one list", m}}
}

// Rule 7: no two lists of an answer share any memory, their spare room too, not
// even where those of the model do.
func TestListsShareNothing(t *testing.T) {
	for _, n := range append(inMemory(), sharing()...) {
		want, _ := secondTrim(n.m)
		for i, op := range want.Ops {
			less := trimmed(t, n.name, n.m)
			spoil(less.Ops[i].Weights, -4321)
			less.Ops[i].Weights = op.Weights
			if !same(less, want) {
				t.Errorf("%s: the weights of op %d are others', too", n.name, i+1)
			}
			spoil(less.Ops[i].Bias, 4321)
			less.Ops[i].Bias = op.Bias
			if !same(less, want) {
				t.Errorf("%s: the biases of op %d are others', too", n.name, i+1)
			}
		}
	}
}

// Rule 7: what is appended to a list of an answer is seen nowhere else.
func TestAppendedIsSeenNowhere(t *testing.T) {
	for _, n := range append(inMemory(), sharing()...) {
		m := roomy(n.m)
		before := everything(m)
		want, _ := secondTrim(n.m)
		less, other := trimmed(t, n.name, m), trimmed(t, n.name, m)
		room := everything(other)
		for _, op := range less.Ops {
			_ = append(op.Weights, 1, 2, 3, 4, 5)
			_ = append(op.Bias, 1, 2, 3, 4, 5)
		}
		_ = append(less.Ops, api.Op{Kind: mark}, api.Op{Kind: mark})
		if !same(less, want) || !reflect.DeepEqual(before, everything(m)) || !reflect.DeepEqual(room, everything(other)) {
			t.Errorf("%s: what is appended is seen", n.name)
		}
	}
}

// Rules 7 and 8: nothing is kept: what is changed in a model is seen in the next
// call's answer, not in the one that was given, and a fault leaves nothing behind.
func TestNothingIsKept(t *testing.T) {
	m := graph(4, marked([]int{0}, []int{1}, []int{1}, []int{3, 0})...)
	for range 2 {
		first := trimmed(t, "as it was", m)
		want := graph(3, at(1, 0), at(3, 1), at(4, 2, 0))
		expectLive(t, "as it was", m, true, true, false, true, true)
		expectTrim(t, "as it was", m, want)
		m.Ops[3].B = 2
		expectLive(t, "another B", m, true, true, true, true, true)
		expectTrim(t, "another B", m, m)
		m.Ops[3].B, m.Ops[2].A = 4, 0
		expectFault(t, "its own tensor", m, api.Fault{Err: api.ErrEdge, Op: 4})
		m.Ops[3].B = 0
		expectLive(t, "another A", m, true, false, false, true, true)
		m.Out = 2
		expectTrim(t, "another output", m, graph(2, at(1, 0), at(2, 1)))
		m.Out = 5
		expectFault(t, "no such output", m, api.Fault{Err: api.ErrPlace})
		m.Ops[2].A, m.Out = 1, 4
		if !same(first, want) {
			t.Errorf("an answer is changed: %+v", first)
		}
	}
}

// Rule 8: what ops make of numbers plays no part: weights, scales and ends may be
// any.
func TestWhatPlaysNoPart(t *testing.T) {
	for _, n := range inMemory() {
		other := steeper(declaring(5, 6, n.m), 3)
		for i := range other.Ops {
			other.Ops[i].Lo, other.Ops[i].Hi = 1, 1
		}
		live, _ := secondLive(n.m)
		expectLive(t, n.name, other, live...)
		hold(t, n.name, other)
	}
}

// Rule 6: lists of a model that are empty are as nil ones.
func TestEmptyListsAreNil(t *testing.T) {
	for out := range 10 {
		m := from(out, everyKind())
		want := trimmed(t, "nil", m)
		for i := range m.Ops {
			if m.Ops[i].Weights == nil {
				m.Ops[i].Weights, m.Ops[i].Bias = []int16{}, []int32{}
			}
		}
		expectTrim(t, "empty", m, want)
		for i := range m.Ops {
			if len(m.Ops[i].Weights) == 0 {
				m.Ops[i].Weights, m.Ops[i].Bias = make([]int16, 0, 7), make([]int32, 0, 7)
			}
		}
		expectTrim(t, "empty, with room", m, want)
	}
	none := star(of(2, 2, 2))
	for _, ops := range [][]api.Op{nil, {}, make([]api.Op, 0, 3)} {
		none.Ops = ops
		expectLive(t, "no ops", none, true)
		expectTrim(t, "no ops", none, star(of(2, 2, 2)))
	}
}

// Rule 8: calls at one time answer as calls one by one.
func TestCallsAtOneTime(t *testing.T) {
	all := inMemory()
	got := make([]api.Model, len(all))
	lists := make([][]bool, len(all))
	var group sync.WaitGroup
	for i, n := range all {
		group.Go(func() {
			got[i], _ = trim.Trim(n.m)
			lists[i], _ = trim.Live(n.m)
		})
	}
	group.Wait()
	for i, n := range all {
		want, _ := secondTrim(n.m)
		live, _ := secondLive(n.m)
		if !same(got[i], want) || !slices.Equal(lists[i], live) {
			t.Errorf("%s: at one time %+v %v; want %+v %v", n.name, got[i], lists[i], want, live)
		}
	}
}

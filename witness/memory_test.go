package witness_test

import (
	"math"
	"reflect"
	"slices"
	"sync"
	"testing"

	"spillway/api"
	"spillway/witness"
)

const mark = 99

// roomyList has the same numbers with spare room behind them, marked.
func roomyList[T any](list []T, marked T) []T {
	wide := slices.Repeat([]T{marked}, len(list)+5)
	return wide[:copy(wide, list)]
}

// roomy has the same numbers with spare room behind every list, all marked.
func roomy(m api.Model) api.Model {
	m.Ops = roomyList(m.Ops, api.Op{Kind: mark})
	for i, op := range m.Ops {
		m.Ops[i].Weights, m.Ops[i].Bias = roomyList(op.Weights, mark), roomyList(op.Bias, mark)
	}
	return m
}

// everything is the model with its lists' spare room, all copied.
func everything(m api.Model) api.Model {
	m.Ops = slices.Clone(m.Ops[:cap(m.Ops)])
	for i, op := range m.Ops {
		m.Ops[i].Weights = slices.Clone(op.Weights[:cap(op.Weights)])
		m.Ops[i].Bias = slices.Clone(op.Bias[:cap(op.Bias)])
	}
	return m
}

// Rule 7: nothing that is handed in is changed, its spare room included, be it
// answered with an error or without; and the spare room is nothing.
func TestNothingIsChanged(t *testing.T) {
	faulty := everyKind()
	faulty.Ops[8].Lo = 128
	all := append(firstAndBehind(), named{"every kind", everyKind()}, named{"skipping", skipping()}, named{"mixed widths", mixedWidths()}, named{"faulty", faulty})
	for _, n := range all {
		m := roomy(n.m)
		before := everything(m)
		for op := range len(m.Ops) + 2 {
			for ch := range 5 {
				for _, s := range rightAndWrong() {
					holdChannel(t, n.name, m, op, ch, s)
					for _, k := range []int{0, 1, 2, math.MaxInt} {
						witness.Break(m, op, ch, s, k)
					}
				}
			}
		}
		if !reflect.DeepEqual(before, everything(m)) {
			t.Errorf("%s: the model is changed", n.name)
		}
	}
}

// answers are those of all calls for a channel: their lists, and all else.
type answers struct {
	lists [][]int8
	rest  []int
}

func (a *answers) add(x []int8, rest ...int) {
	a.lists, a.rest = append(a.lists, x), append(a.rest, rest...)
}

func askAll(m api.Model, at place, s api.Span, length int) answers {
	var a answers
	low, e := witness.Low(m, at.op, at.ch, s)
	a.add(low.X, low.At, int(e))
	high, e := witness.High(m, at.op, at.ch, s)
	a.add(high.X, high.At, int(e))
	for k := 1; k <= length; k++ {
		l, found, e := witness.Break(m, at.op, at.ch, s, k)
		if found {
			a.add(l.X, l.At, l.From, l.Upto, int(e))
		}
	}
	return a
}

// spoil writes into every list, its spare room too.
func (a answers) spoil() {
	for _, x := range a.lists {
		for i := range x[:cap(x)] {
			x[:cap(x)][i] = mark
		}
	}
}

// copied is the same in memory of its own.
func (a answers) copied() answers {
	var b answers
	for _, x := range a.lists {
		b.lists = append(b.lists, slices.Clone(x))
	}
	b.rest = slices.Clone(a.rest)
	return b
}

// P23.3, rules 7 and 8: X is new memory, its spare room too: what is done to one
// is seen neither in the model nor in another one, and two calls answer the same.
func TestAnswersAreNew(t *testing.T) {
	lists := 0
	for _, n := range append(firstAndBehind(), named{"steep", steeper(everyKind(), 50)}, named{"mixed widths", mixedWidths()}) {
		m := roomy(n.m)
		before := everything(m)
		for _, at := range some(places(n.m), 6) {
			for _, s := range list(span(-128, 127), span(0, 0), span(3, 9)) {
				length := read(m, at.op, at.ch, s).length
				first, second := askAll(m, at, s, length), askAll(m, at, s, length)
				kept := first.copied()
				if !reflect.DeepEqual(second, kept) {
					t.Errorf("%s: %v over %v: %v, then %v", n.name, at, s, first, second)
				}
				for i, x := range second.lists {
					answers{lists: [][]int8{x}}.spoil()
					if !reflect.DeepEqual(second.lists[i+1:], kept.lists[i+1:]) {
						t.Errorf("%s: two answers share memory", n.name)
					}
				}
				lists += len(first.lists)
				if !reflect.DeepEqual(first, kept) || !reflect.DeepEqual(askAll(m, at, s, length), kept) {
					t.Errorf("%s: %v over %v: an answer is seen in another one", n.name, at, s)
				}
			}
		}
		if !reflect.DeepEqual(before, everything(m)) {
			t.Errorf("%s: an answer shares memory with the model", n.name)
		}
	}
	if lists < 500 {
		t.Errorf("%d lists only", lists)
	}
}

// Rules 7 and 8: nothing is kept: what is changed in a model is seen in the next
// call's answer, not in the one that was given, and an error leaves nothing
// behind.
func TestNothingIsKept(t *testing.T) {
	m, s := row(0, 200, 200), span(0, 127)
	for range 2 {
		high, _ := witness.High(m, 1, 1, s)
		expectHigh(t, "as it was", m, 1, 1, s, api.Witness{X: []int8{127, 127}})
		expectLeak(t, "as it was", m, 1, 1, s, 2, api.Leak{Upto: 2})
		m.Ops[0].Weights[1] = -200
		expectHigh(t, "another weight", m, 1, 1, s, api.Witness{X: []int8{127, 0}})
		expectNoLeak(t, "another weight", m, 1, 1, s, 2, api.OK)
		m.Ops[0].Weights[1] = 300
		expectLeak(t, "a great weight", m, 1, 1, s, 1, api.Leak{From: 1, Upto: 2})
		m.Out = 5
		expectError(t, "no such output", m, 1, 1, s, api.ErrPlace)
		m.Ops[0].Weights[1], m.Out = 200, 1
		if !slices.Equal(high.X, []int8{127, 127}) {
			t.Errorf("an answer is changed: %v", high)
		}
	}
}

// Rule 8: the declared range plays no part, nor do the op's own range, its
// scale and its Zero, nor what stands behind the op.
func TestWhatPlaysNoPart(t *testing.T) {
	for _, n := range smallModels() {
		other := n.m
		other.Lo, other.Hi, other.Out = 5, 6, 0
		other.Ops = slices.Clone(n.m.Ops)
		for i := range other.Ops {
			op := &other.Ops[i]
			op.Lo, op.Hi = 1, 1
			if op.SA != (api.Scale{}) {
				op.SA, op.Zero = api.Scale{Mult: 7, Shift: 3}, 4
			}
		}
		for _, at := range some(places(n.m), 6) {
			length := read(n.m, at.op, at.ch, span(0, 0)).length
			want := askAll(n.m, at, span(-100, 127), length)
			if got := askAll(other, at, span(-100, 127), length); !reflect.DeepEqual(got, want) {
				t.Errorf("%s: %v: %v; want %v", n.name, at, got, want)
			}
			short := n.m
			short.Ops, short.Out = n.m.Ops[:at.op], 0
			if got := askAll(short, at, span(-100, 127), length); !reflect.DeepEqual(got, want) {
				t.Errorf("%s: %v, with nothing behind it: %v; want %v", n.name, at, got, want)
			}
		}
	}
}

// Rule 6: lists of a model that are empty are as nil ones.
func TestEmptyListsAreNil(t *testing.T) {
	m := everyKind()
	for i := range m.Ops {
		if m.Ops[i].Weights == nil {
			m.Ops[i].Weights, m.Ops[i].Bias = []int16{}, []int32{}
		}
	}
	for _, at := range places(m) {
		holdChannel(t, "empty", m, at.op, at.ch, span(-100, 127))
		length := read(m, at.op, at.ch, span(0, 0)).length
		if got, want := askAll(m, at, span(-100, 127), length), askAll(everyKind(), at, span(-100, 127), length); !reflect.DeepEqual(got, want) {
			t.Errorf("empty: %v: %v; want %v", at, got, want)
		}
	}
}

// Rule 8: calls at one time answer as calls one by one.
func TestCallsAtOneTime(t *testing.T) {
	m := steeper(everyKind(), 30)
	all := places(m)
	want, got := make([]answers, len(all)), make([]answers, len(all))
	for i, at := range all {
		want[i] = askAll(m, at, span(-90, 100), 4)
	}
	var group sync.WaitGroup
	for i, at := range all {
		group.Go(func() { got[i] = askAll(m, at, span(-90, 100), 4) })
	}
	group.Wait()
	if !reflect.DeepEqual(got, want) {
		t.Errorf("at one time %v; one by one %v", got, want)
	}
}

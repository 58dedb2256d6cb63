package plain_test

import (
	"math/rand"
	"reflect"
	"slices"
	"testing"

	"spillway/api"
	"spillway/model"
	"spillway/plain"
)

const mark = 99

// roomyList has the same numbers with spare room behind them, marked.
func roomyList[T int8 | int16 | int32](list []T) []T {
	wide := slices.Repeat([]T{mark}, len(list)+5)
	return wide[:copy(wide, list)]
}

// roomy has the same numbers with spare room behind every list, all marked.
func roomy(m api.Model) api.Model {
	ops := make([]api.Op, len(m.Ops)+3)
	for i := range ops {
		ops[i].Kind = mark
	}
	copy(ops, m.Ops)
	for i := range m.Ops {
		ops[i].Weights, ops[i].Bias = roomyList(ops[i].Weights), roomyList(ops[i].Bias)
	}
	m.Ops = ops[:len(m.Ops)]
	return m
}

// whole is the model with its lists' spare room, all copied.
func whole(m api.Model) api.Model {
	m.Ops = slices.Clone(m.Ops[:cap(m.Ops)])
	for i, op := range m.Ops {
		m.Ops[i].Weights = slices.Clone(op.Weights[:cap(op.Weights)])
		m.Ops[i].Bias = slices.Clone(op.Bias[:cap(op.Bias)])
	}
	return m
}

func wholeList(list []int8) []int8 { return slices.Clone(list[:cap(list)]) }

// copied are the lists, each of its own.
func copied(lists [][]int8) [][]int8 {
	var all [][]int8
	for _, list := range lists {
		all = append(all, slices.Clone(list))
	}
	return all
}

// forMemory are models in which a careless answer would share memory: tensors
// that are the same numbers as another, and outputs that are the input.
func forMemory() []named {
	in := of(4, 3, 2)
	same := star(in, widest(clamp()), widest(clamp()), widest(api.Op{Kind: api.Rescale, SA: api.Scale{Mult: 1}}), widest(greatest(kernel(1, 1, 1, 1))), widest(average(kernel(1, 1, 1, 1))))
	all := []named{{"no ops", star(in)}, {"every kind in a row", everyKind()}, {"every kind", star(in, oneOfEach()...)}}
	for out := range len(same.Ops) + 1 {
		m := same
		m.Out = out
		all = append(all, named{"the same numbers", m})
	}
	return all
}

// Rule 7: nothing that is handed in is changed, its spare room included, be it
// answered with an error or without.
func TestNothingIsChanged(t *testing.T) {
	r := rand.New(rand.NewSource(7))
	for _, n := range forMemory() {
		m := roomy(n.m)
		shapes, _ := model.Shapes(m)
		before := whole(m)
		for _, x := range [][]int8{anyInput(r, m), {1, 2}, numbersOf(r, placesOf(m.In)+1, -128, 127)} {
			x := roomyList(x)
			kept := wholeList(x)
			plain.Tensors(m, x)
			plain.Eval(m, x)
			for op := range len(m.Ops) + 2 {
				plain.Totals(m, op, x)
			}
			if !slices.Equal(kept, wholeList(x)) {
				t.Errorf("%s: the input is changed", n.name)
			}
		}
		for i, op := range m.Ops {
			a := roomyList(numbersOf(r, placesOf(shapes[op.A]), -128, 127))
			kept := wholeList(a)
			plain.Totals(m, i+1, a)
			if !slices.Equal(kept, wholeList(a)) {
				t.Errorf("%s: op %d: the list is changed", n.name, i+1)
			}
		}
		if !reflect.DeepEqual(before, whole(m)) {
			t.Errorf("%s: the model is changed", n.name)
		}
	}
}

func fill[T int8 | int64](list []T) {
	list = list[:cap(list)]
	for i := range list {
		list[i] = mark
	}
}

// Rule 7, rule 8: tensors are new memory, each of its own, their spare room too
// and the list of them; and nothing is kept.
func TestTensorsAreNewMemory(t *testing.T) {
	r := rand.New(rand.NewSource(70))
	for _, n := range forMemory() {
		m, x := roomy(n.m), roomyList(anyInput(r, n.m))
		before, input := whole(m), wholeList(x)
		first, _ := plain.Tensors(m, x)
		second, _ := plain.Tensors(m, x)
		kept := copied(first)
		for at := range first {
			fill(first[at])
			for other := range first {
				if other > at && !slices.Equal(first[other], kept[other]) {
					t.Errorf("%s: tensors %d and %d share memory", n.name, at, other)
				}
			}
		}
		for i := range first[:cap(first)] {
			first[:cap(first)][i] = []int8{mark}
		}
		if !sameLists(second, kept) {
			t.Errorf("%s: two answers share memory", n.name)
		}
		expectTensors(t, n.name, m, x, kept, api.Fault{})
		if !slices.Equal(input, wholeList(x)) || !reflect.DeepEqual(before, whole(m)) {
			t.Errorf("%s: an answer shares memory with what is handed in", n.name)
		}
	}
}

// Rule 7, rule 8: an output is new memory.
func TestOutputsAreNewMemory(t *testing.T) {
	r := rand.New(rand.NewSource(71))
	for _, n := range forMemory() {
		m, x := roomy(n.m), roomyList(anyInput(r, n.m))
		before, input := whole(m), wholeList(x)
		first, _ := plain.Eval(m, x)
		second, _ := plain.Eval(m, x)
		kept := slices.Clone(first)
		fill(first)
		if !slices.Equal(second, kept) {
			t.Errorf("%s: two answers share memory", n.name)
		}
		expectEval(t, n.name, m, x, kept, api.Fault{})
		if !slices.Equal(input, wholeList(x)) || !reflect.DeepEqual(before, whole(m)) {
			t.Errorf("%s: an answer shares memory with what is handed in", n.name)
		}
	}
}

// Rule 7, rule 8: totals are new memory.
func TestTotalsAreNewMemory(t *testing.T) {
	r := rand.New(rand.NewSource(72))
	m := roomy(star(of(4, 3, 2), oneOfEach()...))
	before := whole(m)
	for op := 1; op <= 4; op++ {
		a := roomyList(numbersOf(r, 24, -128, 127))
		list := wholeList(a)
		first, _ := plain.Totals(m, op, a)
		second, _ := plain.Totals(m, op, a)
		kept := slices.Clone(first)
		fill(first)
		if !slices.Equal(second, kept) {
			t.Errorf("op %d: two answers share memory", op)
		}
		expectTotals(t, "again", m, op, a, kept, api.OK)
		if !slices.Equal(list, wholeList(a)) || !reflect.DeepEqual(before, whole(m)) {
			t.Errorf("op %d: an answer shares memory with what is handed in", op)
		}
	}
}

// Rule 7, rule 8: what is changed in an input or a model behind a call isn't
// seen in the answer of that call, and is in the next one's.
func TestNothingIsKept(t *testing.T) {
	m, x := denseExample(), []int8{10, 5}
	all, _ := plain.Tensors(m, x)
	out, _ := plain.Eval(m, x)
	totals, _ := plain.Totals(m, 1, x)
	x[0], m.Ops[0].Weights[1], m.Ops[0].Bias[0] = 20, 4, -30
	if !sameLists(all, [][]int8{{10, 5}, {21}}) || !slices.Equal(out, []int8{21}) || !slices.Equal(totals, []int64{21}) {
		t.Errorf("an answer is changed: %v %v %v", all, out, totals)
	}
	expectTensors(t, "changed", m, x, [][]int8{{20, 5}, {50}}, api.Fault{})
	expectTotals(t, "changed", m, 1, x, []int64{50}, api.OK)
}

// Rule 6: a list that is empty is one that is nil.
func TestEmptyListsAreNil(t *testing.T) {
	m := everyKind()
	x := anyInput(rand.New(rand.NewSource(6)), m)
	want, _ := plain.Tensors(m, x)
	expectTensors(t, "empty lists", emptyLists(m), x, want, api.Fault{})
	for _, none := range [][]int8{nil, {}} {
		expectTensors(t, "no numbers", m, none, nil, noInput)
		expectTotals(t, "no numbers", m, 2, none, nil, api.ErrLens)
	}
}

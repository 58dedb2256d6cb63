package kern_test

import (
	"math/rand"
	"reflect"
	"slices"
	"testing"

	"spillway/api"
)

const mark = 99

// roomyList has the same numbers with spare room behind them, marked.
func roomyList[T any](list []T, marked T) []T {
	wide := slices.Repeat([]T{marked}, len(list)+5)
	return wide[:copy(wide, list)]
}

// roomy is the same with spare room behind every list, all marked.
func (q asked) roomy() asked {
	q.m.Ops = roomyList(q.m.Ops, api.Op{Kind: mark})
	for i, op := range q.m.Ops {
		q.m.Ops[i].Weights, q.m.Ops[i].Bias = roomyList(op.Weights, mark), roomyList(op.Bias, mark)
	}
	q.plans, q.a, q.b = roomyList(q.plans, api.Chan{Width: mark}), roomyList(q.a, mark), roomyList(q.b, mark)
	return q
}

func everyOf[T any](list []T) []T { return slices.Clone(list[:cap(list)]) }

// everything is what is asked with its lists' spare room, all copied.
func (q asked) everything() asked {
	q.m.Ops = everyOf(q.m.Ops)
	for i, op := range q.m.Ops {
		q.m.Ops[i].Weights, q.m.Ops[i].Bias = everyOf(op.Weights), everyOf(op.Bias)
	}
	q.plans, q.a, q.b = everyOf(q.plans), everyOf(q.a), everyOf(q.b)
	return q
}

// copied is the same in memory of its own.
func (q asked) copied() asked {
	q.m.Ops = slices.Clone(q.m.Ops)
	for i, op := range q.m.Ops {
		q.m.Ops[i].Weights, q.m.Ops[i].Bias = slices.Clone(op.Weights), slices.Clone(op.Bias)
	}
	q.plans, q.a, q.b = slices.Clone(q.plans), slices.Clone(q.a), slices.Clone(q.b)
	return q
}

// allAsked are ops of all sorts, each with plans and lists.
func allAsked(r *rand.Rand) []asked {
	var all []asked
	in := of(4, 3, 2)
	// What these make is, number by number, what they read.
	same := star(in,
		api.Op{Kind: api.Clamp, Lo: -128, Hi: 127}, api.Op{Kind: api.Rescale, SA: api.Scale{Mult: 1}, Lo: -128, Hi: 127},
		api.Op{Kind: api.Max, Win: kernel(1, 1, 1, 1), Lo: -128, Hi: 127}, api.Op{Kind: api.Average, Win: kernel(1, 1, 1, 1), Lo: -128, Hi: 127})
	for _, m := range []api.Model{same, star(in, oneOfEach()...), steeper(star(in, oneOfEach()...), 9), everyKind(), adding()} {
		for op := 1; op <= len(m.Ops); op++ {
			q := askedOf(r, m, op, anyPlans(r, m, op))
			if q.b == nil {
				q.b = anyNumbers(r, in)
			}
			all = append(all, q)
		}
	}
	return all
}

// Rule 7: nothing that is handed in is changed, its spare room included, be it
// answered with a fault or without; and the spare room is nothing.
func TestNothingIsChanged(t *testing.T) {
	r := rand.New(rand.NewSource(51))
	for _, q := range allAsked(r) {
		want, track, _ := hold(t, "as it is", q)
		q := q.roomy()
		before := q.everything()
		expect(t, "with spare room", q, want, track)
		for range 20 {
			hold(t, "spoilt", spoil(r, q))
		}
		other := q
		other.m.Out = -1
		expectFault(t, "no such output", other, noPlace)
		if !reflect.DeepEqual(before, q.everything()) {
			t.Errorf("something is changed: %+v", q)
		}
	}
}

// Rules 7 and 8: an answer is new memory, its spare room too: what is done to it
// is seen neither in what was handed in nor in another answer, and two calls
// answer the same.
func TestAnswersAreNew(t *testing.T) {
	r := rand.New(rand.NewSource(52))
	for _, q := range allAsked(r) {
		q := q.roomy()
		before := q.everything()
		first, track, f := q.ask()
		second, again, g := q.ask()
		if f != g || track != again || !slices.Equal(first, second) {
			t.Errorf("%v %+v %v, then %v %+v %v", first, track, f, second, again, g)
		}
		kept := slices.Clone(second)
		for i := range first[:cap(first)] {
			first[:cap(first)][i] = mark
		}
		if !slices.Equal(second, kept) {
			t.Errorf("two answers share memory: %+v", q)
		}
		if !reflect.DeepEqual(before, q.everything()) {
			t.Errorf("an answer shares memory with what was handed in: %+v", q)
		}
		expect(t, "again", q, kept, track)
	}
}

// Rules 7 and 8: nothing is kept: what is changed behind a call isn't seen in its
// answer, and is in the next one's; a fault leaves nothing behind.
func TestNothingIsKept(t *testing.T) {
	r := rand.New(rand.NewSource(53))
	for _, q := range allAsked(r) {
		q := q.copied()
		made, _, f := hold(t, "first", q)
		if f != (api.Fault{}) {
			t.Fatalf("%v", f)
		}
		kept := slices.Clone(made)
		for i := range q.a {
			q.a[i] = ^q.a[i]
		}
		for i := range q.b {
			q.b[i] /= 2
		}
		for i := range q.plans {
			q.plans[i] = anyPlan(r, secondLength(q.m, q.op))
		}
		o := &q.m.Ops[q.op-1]
		for i := range o.Weights {
			o.Weights[i] += 5
		}
		for i := range o.Bias {
			o.Bias[i] -= 7
		}
		o.Hi--
		if !slices.Equal(made, kept) {
			t.Errorf("an answer is changed: %v; it was %v", made, kept)
		}
		hold(t, "changed", q)
		hold(t, "spoilt", spoil(r, q))
		hold(t, "changed, again", q)
	}
}

// Rule 6: lists that are empty are as nil ones: of a model, of plans, of numbers.
func TestEmptyListsAreNil(t *testing.T) {
	r := rand.New(rand.NewSource(54))
	for _, q := range allAsked(r) {
		if q.m.Ops[q.op-1].Kind != api.Add {
			q.b = nil
		}
		want, track, _ := hold(t, "nil", q)
		q.m.Ops = slices.Clone(q.m.Ops)
		for i, op := range q.m.Ops {
			if len(op.Weights) == 0 {
				q.m.Ops[i].Weights, q.m.Ops[i].Bias = []int16{}, []int32{}
			}
		}
		if len(q.plans) == 0 {
			q.plans = []api.Chan{}
		}
		if len(q.b) == 0 {
			q.b = []int8{}
		}
		expect(t, "empty", q, want, track)
		q.a = nil
		expectFault(t, "nil", q, lens(q.op))
		q.a = []int8{}
		expectFault(t, "empty", q, lens(q.op))
	}
}

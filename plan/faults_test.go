package plan_test

import (
	"math"
	"testing"

	"spillway/api"
	"spillway/model"
)

// Rule 3: of a model that isn't well-formed both calls tell layer 8's fault, its
// Op too.
func TestModelsThatAreNotWellFormed(t *testing.T) {
	told := map[api.Errno]bool{}
	for _, b := range brokenModels() {
		m := b.model()
		if f := model.Check(m); f != b.fault {
			t.Fatalf("%s: the model's fault is %v; want %v", b.name, f, b.fault)
		}
		told[b.fault.Err] = true
		expectFault(t, b.name, m, b.fault)
	}
	if len(told) != 13 {
		t.Errorf("%d errors of chapter 8 told; want 13", len(told))
	}
}

// Rule 3: that fault comes ahead of a channel that is too wide, wherever both
// are.
func TestFaultOfModelComesFirst(t *testing.T) {
	hard := rows([]int32{math.MaxInt32}, 1, 1)
	good := star(of(1, 1, 2), hard, clamp(), hard)
	expectFault(t, "no fault of the model", good, tooWideAt(1, 1))
	for number := range 3 {
		m := star(of(1, 1, 2), hard, clamp(), hard)
		m.Ops[number].Lo, m.Ops[number].Hi = 3, 2
		expectFault(t, "an op's range", m, api.Fault{Err: api.ErrRange, Op: number + 1})
	}
	m := good
	m.Out = 4
	expectFault(t, "no such output", m, api.Fault{Err: api.ErrPlace})
	m = good
	m.Lo = -129
	expectFault(t, "the declared range", m, api.Fault{Err: api.ErrRange})
}

// P1: models of nothing, and of numbers as great as an int goes.
func TestModelsOfNothing(t *testing.T) {
	for _, m := range []api.Model{{}, {Ops: []api.Op{{}}}, {Ops: make([]api.Op, 1000)}, {In: of(math.MaxInt, math.MaxInt, math.MaxInt), Lo: math.MinInt, Hi: math.MaxInt, Out: math.MaxInt}} {
		expectFault(t, "nothing", m, api.Fault{Err: api.ErrShape})
	}
	expectFault(t, "an op of nothing", star(of(1, 1, 1), api.Op{}), api.Fault{Err: api.ErrKind, Op: 1})
	expectFault(t, "too many of nothing", star(of(1, 1, 1), make([]api.Op, 65)...), api.Fault{Err: api.ErrMany})
	expectPlan(t, "one number", api.Model{In: of(1, 1, 1)}, api.Cert{Ranges: list(span(0, 0))})
}

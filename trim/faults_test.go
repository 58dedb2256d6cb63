package trim_test

import (
	"math"
	"math/rand"
	"testing"

	"spillway/api"
	"spillway/model"
)

// Rule 3: of a model that isn't well-formed both calls tell layer 8's fault, its
// Op too, and answer no list and no model beside it.
func TestModelsThatAreNotWellFormed(t *testing.T) {
	told := map[api.Errno]bool{}
	for _, b := range brokenModels() {
		for out := range 4 {
			m := b.model()
			if b.fault.Err != api.ErrPlace {
				m.Out = out
			}
			if f := model.Check(m); f != b.fault {
				t.Fatalf("%s: the model's fault is %v; want %v", b.name, f, b.fault)
			}
			told[b.fault.Err] = true
			expectFault(t, b.name, m, b.fault)
		}
	}
	if len(told) != 13 {
		t.Errorf("%d errors of chapter 8 told; want 13", len(told))
	}
}

// Rule 3: what isn't needed counts, too: a model that would be well-formed
// without it isn't, and the fault's Op is the number that the op has, not the one
// that it would have.
func TestFaultsOfWhatIsNotNeeded(t *testing.T) {
	wrong := clamp()
	wrong.Lo = -129
	for number := range 5 {
		ops := []api.Op{clamp(), clamp(), clamp(), clamp(), clamp()}
		ops[number] = wrong
		for out := range 6 {
			expectFault(t, "a range", from(out, star(of(1, 1, 1), ops...)), api.Fault{Err: api.ErrRange, Op: number + 1})
		}
	}
	nodes := marked([]int{0}, []int{0}, []int{1, 3}, []int{2})
	for _, out := range []int{0, 1, 2, 4} {
		expectFault(t, "its own tensor", graph(out, nodes...), api.Fault{Err: api.ErrEdge, Op: 3})
	}
	more := many(1, func(int) []int { return []int{0} })
	more.Ops = append(more.Ops, clamp())
	for _, out := range []int{0, 1, 65} {
		expectFault(t, "65 ops", from(out, more), api.Fault{Err: api.ErrMany})
	}
	in := of(128, 128, 1)
	least := kernel(1, 1, 1, 1)
	for _, out := range []int{0, 1, 9} {
		m := star(in, average(least), average(least), average(least), average(least), average(least), average(least), average(least), average(least), clamp())
		expectFault(t, "too much work", from(out, m), api.Fault{Err: api.ErrWork, Op: 9})
	}
}

// P1: models that are no models, of the greatest and the least numbers there are.
func TestModelsOfNothing(t *testing.T) {
	for _, m := range []api.Model{{}, {Ops: []api.Op{{}}}, {Ops: make([]api.Op, 1000)}, {In: of(math.MaxInt, math.MaxInt, math.MaxInt), Lo: math.MinInt, Hi: math.MaxInt, Out: math.MaxInt}} {
		expectFault(t, "nothing", m, api.Fault{Err: api.ErrShape})
	}
	expectFault(t, "an op of nothing", star(of(1, 1, 1), api.Op{}), api.Fault{Err: api.ErrKind, Op: 1})
	expectFault(t, "too many of nothing", star(of(1, 1, 1), make([]api.Op, 65)...), api.Fault{Err: api.ErrMany})
	expectLive(t, "one number", api.Model{In: of(1, 1, 1)}, true)
	expectTrim(t, "one number", api.Model{In: of(1, 1, 1)}, api.Model{In: of(1, 1, 1)})
	for _, out := range []int{-1, 4, math.MinInt, math.MaxInt} {
		expectFault(t, "no such output", from(out, threeOps()), api.Fault{Err: api.ErrPlace})
	}
	for _, read := range []int{-1, 3, 4, math.MinInt, math.MaxInt, 1 << 32} {
		m := threeOps()
		m.Ops[2].B = read
		expectFault(t, "no such B", m, api.Fault{Err: api.ErrEdge, Op: 3})
		m = threeOps()
		m.Ops[1].B = read
		expectFault(t, "a Clamp with a B", m, api.Fault{Err: api.ErrField, Op: 2})
		m = threeOps()
		m.Ops[2].A = read
		expectFault(t, "no such A", m, api.Fault{Err: api.ErrEdge, Op: 3})
	}
}

// P1, rule 3: random models, a few of whose numbers are any, and well-formed ones
// among them.
func TestDisturbedModels(t *testing.T) {
	r := rand.New(rand.NewSource(242))
	told := map[api.Errno]int{}
	for range 20000 {
		m := anyModel(r, 5)
		for range 1 + r.Intn(2) {
			disturb(r, &m)
		}
		told[model.Check(m).Err]++
		hold(t, "disturbed", m)
	}
	for _, e := range []api.Errno{api.OK, api.ErrShape, api.ErrRange, api.ErrPlace, api.ErrKind, api.ErrEdge, api.ErrField, api.ErrWindow, api.ErrLens, api.ErrScale, api.ErrArg} {
		if told[e] < 20 {
			t.Errorf("the error %d is told %d times only", int(e), told[e])
		}
	}
}

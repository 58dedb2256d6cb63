package trim_test

import (
	"reflect"
	"slices"
	"testing"

	"spillway/api"
	"spillway/trim"
)

// bare is the model with nil for every list that has nothing in it.
func bare(m api.Model) api.Model {
	m.Ops = slices.Clone(m.Ops)
	if len(m.Ops) == 0 {
		m.Ops = nil
	}
	for i, op := range m.Ops {
		if len(op.Weights) == 0 {
			m.Ops[i].Weights = nil
		}
		if len(op.Bias) == 0 {
			m.Ops[i].Bias = nil
		}
	}
	return m
}

// same: are they one model? A nil list is as an empty one.
func same(a, b api.Model) bool { return reflect.DeepEqual(bare(a), bare(b)) }

// expectLive: Live answers these.
func expectLive(t *testing.T, name string, m api.Model, want ...bool) {
	t.Helper()
	if got, f := trim.Live(m); f != (api.Fault{}) || !slices.Equal(got, want) {
		t.Errorf("%s: Live: %v %v; want %v", name, got, f, want)
	}
}

// expectTrim: Trim answers this model.
func expectTrim(t *testing.T, name string, m, want api.Model) {
	t.Helper()
	if got, f := trim.Trim(m); f != (api.Fault{}) || !same(got, want) {
		t.Errorf("%s: Trim: %+v %v; want %+v", name, got, f, want)
	}
}

// expectFault: both answer this fault, and nothing beside it.
func expectFault(t *testing.T, name string, m api.Model, want api.Fault) {
	t.Helper()
	if live, f := trim.Live(m); f != want || len(live) != 0 {
		t.Errorf("%s: Live: %v %v; want the fault %v", name, live, f, want)
	}
	if less, f := trim.Trim(m); f != want || !same(less, api.Model{}) {
		t.Errorf("%s: Trim: %+v %v; want the fault %v", name, less, f, want)
	}
}

// hold holds both calls to the second reading.
func hold(t *testing.T, name string, m api.Model) {
	t.Helper()
	live, f := secondLive(m)
	if f != (api.Fault{}) {
		expectFault(t, name, m, f)
		return
	}
	want, _ := secondTrim(m)
	expectLive(t, name, m, live...)
	expectTrim(t, name, m, want)
}

// trimmed is what Trim makes of a well-formed model.
func trimmed(t *testing.T, name string, m api.Model) api.Model {
	t.Helper()
	less, f := trim.Trim(m)
	if f != (api.Fault{}) {
		t.Fatalf("%s: %v\n%+v", name, f, m)
	}
	return less
}

// liveOf are the numbers of the tensors that Live says are needed.
func liveOf(t *testing.T, name string, m api.Model) []int {
	t.Helper()
	live, f := trim.Live(m)
	if f != (api.Fault{}) || len(live) != len(m.Ops)+1 {
		t.Fatalf("%s: Live: %v %v", name, live, f)
	}
	var numbers []int
	for tensor, is := range live {
		if is {
			numbers = append(numbers, tensor)
		}
	}
	return numbers
}

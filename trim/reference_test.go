package trim_test

import (
	"spillway/api"
	"spillway/model"
)

// What stands here is a second reading of the chapter: which tensors are needed
// is asked tensor by tensor, and a tensor's new number is counted.

// reads are the tensors that the op reads.
func reads(op api.Op) []int {
	if op.Kind == api.Add {
		return []int{op.A, op.B}
	}
	return []int{op.A}
}

// isNeeded: is the tensor the output, or does an op read it whose tensor is
// needed? What is known already isn't worked out again.
func isNeeded(m api.Model, tensor int, known map[int]bool) bool {
	if is, found := known[tensor]; found {
		return is
	}
	is := tensor == m.Out
	for i, op := range m.Ops {
		for _, read := range reads(op) {
			is = is || read == tensor && isNeeded(m, i+1, known)
		}
	}
	known[tensor] = is
	return is
}

func secondLive(m api.Model) ([]bool, api.Fault) {
	if f := model.Check(m); f != (api.Fault{}) {
		return nil, f
	}
	var live []bool
	known := map[int]bool{}
	for tensor := range len(m.Ops) + 1 {
		live = append(live, isNeeded(m, tensor, known))
	}
	return live, api.Fault{}
}

// newNumber is how many ops up to that tensor's own are kept; the input has none.
func newNumber(live []bool, tensor int) int {
	kept := 0
	for other := 1; other <= tensor; other++ {
		if live[other] {
			kept++
		}
	}
	return kept
}

func secondTrim(m api.Model) (api.Model, api.Fault) {
	live, f := secondLive(m)
	if f != (api.Fault{}) {
		return api.Model{}, f
	}
	want := m
	want.Ops, want.Out = nil, newNumber(live, m.Out)
	for i, op := range m.Ops {
		if live[i+1] {
			op.A = newNumber(live, op.A)
			if op.Kind == api.Add {
				op.B = newNumber(live, op.B)
			}
			want.Ops = append(want.Ops, op)
		}
	}
	return want, api.Fault{}
}

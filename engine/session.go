package engine

import (
	"slices"

	"spillway/api"
	"spillway/kern"
)

// takes: is x an input of the model?
func (s *Session) takes(x []int8) bool {
	in := s.model.In
	beyond := func(n int8) bool { return int(n) < s.model.Lo || int(n) > s.model.Hi }
	// The sides of a valid shape are so small that their product can't wrap.
	return len(x) == in.H*in.W*in.C && !slices.ContainsFunc(x, beyond)
}

// done is every op done in order: all tensors, x itself the first of them, and
// for each op what its registers did. The checker took the plans, and each
// tensor has the shape that the op asks for, so that layer 21 tells no fault.
func (s *Session) done(x []int8) ([][]int8, []api.Track) {
	tensors := [][]int8{x}
	var tracks []api.Track
	for i, op := range s.model.Ops {
		made, track, _ := kern.Op(s.model, i+1, s.cert.Plans[i], tensors[op.A], tensors[op.B])
		tensors, tracks = append(tensors, made), append(tracks, track)
	}
	return tensors, tracks
}

// copyOfModel shares no list with m.
func copyOfModel(m api.Model) api.Model {
	m.Ops = slices.Clone(m.Ops)
	for i, op := range m.Ops {
		m.Ops[i].Weights, m.Ops[i].Bias = slices.Clone(op.Weights), slices.Clone(op.Bias)
	}
	return m
}

// copyOfCert shares no list with c.
func copyOfCert(c api.Cert) api.Cert {
	c.Ranges, c.Plans = slices.Clone(c.Ranges), slices.Clone(c.Plans)
	for i, plans := range c.Plans {
		c.Plans[i] = slices.Clone(plans)
	}
	return c
}

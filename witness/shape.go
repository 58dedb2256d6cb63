package witness

import "spillway/api"

// shapeOf is that of a tensor of a well-formed model. It is worked out here, as
// layer 8 isn't among those that this layer leans on, and layer 10 tells of ops
// that reduce alone.
func shapeOf(m api.Model, tensor int) api.Shape {
	if tensor == 0 {
		return m.In
	}
	op := m.Ops[tensor-1]
	s := shapeOf(m, op.A)
	switch op.Kind {
	case api.Dense:
		return api.Shape{H: 1, W: 1, C: op.M}
	case api.Conv:
		s = slid(s, op.Win)
		s.C = op.M
	case api.Depthwise, api.Average, api.Max:
		s = slid(s, op.Win)
	}
	return s
}

// slid is a plane of the places at which a window stands over that one.
func slid(s api.Shape, w api.Window) api.Shape {
	s.H = (w.Top+s.H+w.Bottom-w.KH)/w.SH + 1
	s.W = (w.Left+s.W+w.Right-w.KW)/w.SW + 1
	return s
}

package check

import (
	"math"

	"spillway/api"
	"spillway/flow"
	"spillway/model"
)

// faultOfOp is the first that an op's plans have, or its range, in a
// certificate of the model's form: so layer 14 has no error, and an op that
// doesn't reduce has no plans.
func faultOfOp(m api.Model, op int, c api.Cert) api.Fault {
	one, over := alone(m, op), c.Ranges[m.Ops[op-1].A]
	for i, plan := range c.Plans[op-1] {
		if e := Chan(one, 1, i+1, over, plan); e != api.OK {
			return api.Fault{Err: e, Op: op, Chan: i + 1}
		}
	}
	if comes, _ := flow.Out(m, op, c.Ranges); !holds(c.Ranges[op], comes) {
		return api.Fault{Err: api.ErrClaim, Op: op}
	}
	return api.Fault{}
}

// alone is a model of that op only, with tensor A as its input: layer 13 asks at
// each channel whether its model is well-formed, which would take long with all
// the other ops in it, and the sums are the same. Of an op that doesn't reduce
// nothing is asked.
func alone(m api.Model, op int) api.Model {
	shapes, _ := model.Shapes(m)
	reduction := m.Ops[op-1]
	reads := shapes[reduction.A]
	reduction.A = 0
	return api.Model{In: reads, Ops: []api.Op{reduction}}
}

// lengthOf is the length of an op that reduces: layer 8 counts as its work the
// length for each number that it makes.
func lengthOf(m api.Model, op int) int {
	shapes, _ := model.Shapes(m)
	makes := shapes[op]
	work, _ := model.Work(alone(m, op))
	return work / (makes.H * makes.W * makes.C)
}

// The widths that a plan may have.
const (
	narrow = 16
	wide   = 32
)

// errorOfForm is what is wrong with a plan whatever the op's numbers are.
func errorOfForm(p api.Chan, length int) api.Errno {
	if !valid(p.Part) || !valid(p.Total) {
		return api.ErrSpan
	}
	if p.Width != narrow && p.Width != wide {
		return api.ErrWidth
	}
	if p.Depth < 1 || p.Depth > length || p.Width == wide && p.Depth != length {
		return api.ErrDepth
	}
	return api.OK
}

// inRegisters: do the running sums, which a plan can't change, and what it
// claims fit the registers that they are to be held in?
func inRegisters(p api.Chan, run api.Span) bool {
	ofParts := int32s()
	if p.Width == narrow {
		ofParts = int16s()
	}
	return holds(int32s(), run) && holds(ofParts, p.Part) && holds(int32s(), p.Total)
}

func int16s() api.Span { return api.Span{Lo: math.MinInt16, Hi: math.MaxInt16} }

func int32s() api.Span { return api.Span{Lo: math.MinInt32, Hi: math.MaxInt32} }

func valid(s api.Span) bool { return s.Lo <= s.Hi }

// holds: are the ends of a valid span within those of another?
func holds(outer, inner api.Span) bool {
	return outer.Lo <= inner.Lo && valid(inner) && inner.Hi <= outer.Hi
}

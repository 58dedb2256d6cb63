package plan

import (
	"spillway/api"
	"spillway/depth"
)

// chosenFor are the plans of an op's channels over the span of what it reads,
// or the fault of the first channel whose running sums no register bears.
func chosenFor(m api.Model, op int, over api.Span) ([]api.Chan, api.Fault) {
	var plans []api.Chan
	for ch := 1; ; ch++ {
		plan, e := depth.Choose(m, op, ch, over)
		switch e {
		case api.OK:
			plans = append(plans, plan)
		case api.ErrWide:
			return nil, api.Fault{Err: api.ErrWide, Op: op, Chan: ch}
		default:
			// The model is well-formed, the op is its own and the span is one of
			// values: so the op doesn't reduce, or the last channel is behind.
			return plans, api.Fault{}
		}
	}
}

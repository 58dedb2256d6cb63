package cert

import (
	"spillway/api"
	"spillway/model"
	"spillway/terms"
)

const (
	leastValue    = -128
	greatestValue = 127
)

func valid(s api.Span) bool { return s.Lo <= s.Hi }

// ofValues: is it a span of values?
func ofValues(s api.Span) bool {
	return leastValue <= s.Lo && valid(s) && s.Hi <= greatestValue
}

// planned is how many plans the list of an op ought to have that makes a tensor
// of that shape.
func planned(op api.Op, makes api.Shape) int {
	if !model.Reduces(op.Kind) {
		return 0
	}
	return makes.C
}

// formOfList is the fault of an op's list, which ought to have so many plans.
func formOfList(plans []api.Chan, op, count int) api.Fault {
	if len(plans) != count {
		return api.Fault{Err: api.ErrLens, Op: op}
	}
	for i, plan := range plans {
		if !valid(plan.Part) || !valid(plan.Total) {
			return api.Fault{Err: api.ErrSpan, Op: op, Chan: i + 1}
		}
	}
	return api.Fault{}
}

// lengthOf is the length of an op of a well-formed model; of one that doesn't
// reduce it is 0. Layer 10 is asked of a model of the op alone, with tensor A as
// its input: it goes through all ops of its model at each call, which would take
// long with the others in it, and the length is the same.
func lengthOf(op api.Op, shapes []api.Shape) int {
	reads := shapes[op.A]
	op.A = 0
	length, _ := terms.Length(api.Model{In: reads, Ops: []api.Op{op}}, 1)
	return length
}

// The widths that a plan may have.
const (
	narrow = 16
	wide   = 32
)

// costOfSum is what one sum of a channel costs: in narrow registers each block
// is spilled into a wide one by one sum more.
func costOfSum(plan api.Chan, length int) (api.Track, api.Errno) {
	switch plan.Width {
	case narrow:
		blocks, e := Blocks(length, plan.Depth)
		if e != api.OK {
			return api.Track{}, e
		}
		return api.Track{Muls16: length, Adds16: length, Adds32: blocks}, api.OK
	case wide:
		if plan.Depth != length {
			return api.Track{}, api.ErrDepth
		}
		return api.Track{Muls32: length, Adds32: length}, api.OK
	}
	return api.Track{}, api.ErrWidth
}

// plusTimes is the cost so far and that of one sum, so many times. A model's
// work is bounded, and no count here is beyond it.
func plusTimes(all, one api.Track, times int) api.Track {
	all.Muls16 += one.Muls16 * times
	all.Adds16 += one.Adds16 * times
	all.Muls32 += one.Muls32 * times
	all.Adds32 += one.Adds32 * times
	return all
}

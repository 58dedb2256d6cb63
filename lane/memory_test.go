package lane_test

import (
	"math/rand"
	"slices"
	"testing"

	"spillway/api"
	"spillway/lane"
)

// roomy has the same numbers with spare room behind them, marked.
func roomy[T lane.Narrow | ~int8](list []T) []T {
	wide := slices.Repeat([]T{99}, len(list)+5)
	return wide[:copy(wide, list)]
}

// everything is the list with its spare room, copied.
func everything[T any](list []T) []T { return slices.Clone(list[:cap(list)]) }

// Rule 7: neither the lists nor their spare room are changed, be it answered
// with an error or without; and the spare room is nothing.
func TestDotChangesNothing(t *testing.T) {
	r := rand.New(rand.NewSource(13))
	for range 3000 {
		c := anyCase(r)
		c.ws, c.xs = roomy(c.ws), roomy(c.xs)
		ws, xs := everything(c.ws), everything(c.xs)
		holdDot(t, c)
		wrong := c
		wrong.width = 17
		expectError(t, wrong, api.ErrWidth)
		wrong.width, wrong.depth = c.width, len(c.ws)+1
		expectError(t, wrong, api.ErrDepth)
		wrong.xs = c.xs[:len(c.xs)+1]
		expectError(t, wrong, api.ErrLens)
		if !slices.Equal(ws, everything(c.ws)) || !slices.Equal(xs, everything(c.xs)) {
			t.Errorf("%+v is changed", c)
		}
	}
}

func holdUnchanged[T lane.Narrow](t *testing.T, list []T) {
	t.Helper()
	plain, plainWraps := lane.Sum(slices.Clip(slices.Clone(list)))
	list = roomy(list)
	before := everything(list)
	checkSum(t, "with spare room", list, plain, plainWraps)
	if !slices.Equal(before, everything(list)) {
		t.Errorf("Sum changes %v", list)
	}
}

// Rule 7: likewise Sum.
func TestSumChangesNothing(t *testing.T) {
	holdUnchanged(t, []int16{})
	holdUnchanged(t, []int16{30000, 10000, -10000})
	holdUnchanged(t, []ownShort{-30000, -30000})
	holdUnchanged(t, []int32{1 << 30, 1 << 30, 5})
	holdUnchanged(t, []ownWord{7})
}

// Rule 8: a call answers the same again, whatever was asked between; and what a
// list was at an earlier call is forgotten.
func TestSameAnswerAgain(t *testing.T) {
	r := rand.New(rand.NewSource(14))
	for range 2000 {
		c, other := anyCase(r), anyCase(r)
		register, track, e := c.dot()
		other.dot()
		lane.Join(track, anyTrack(r))
		lane.Sum(other.ws)
		againRegister, againTrack, f := c.dot()
		if register != againRegister || track != againTrack || e != f {
			t.Errorf("%+v: %d, %+v, then %d, %+v", c, register, track, againRegister, againTrack)
		}
		at := r.Intn(len(c.ws))
		c.ws[at], c.xs[at] = c.ws[at]+1, c.xs[at]^1
		holdDot(t, c)
	}
}

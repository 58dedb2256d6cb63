package kern

import (
	"math"

	"spillway/api"
	"spillway/fixq"
	"spillway/lane"
	"spillway/model"
	"spillway/terms"
)

// kernel is an op of a well-formed model with the shapes of tensor A and of the
// tensor that it makes; and, if it reduces, with its length and with how many
// plans it needs. Since the model is well-formed, and lists and plans are asked
// ahead of the work, none of the calls below has an error: scales and ranges are
// valid, and no register is beyond what Apply takes.
type kernel struct {
	api.Op
	reads, makes    api.Shape
	length, planned int
}

func kernelOf(o api.Op, shapes []api.Shape, op int) kernel {
	k := kernel{Op: o, reads: shapes[o.A], makes: shapes[op]}
	if model.Reduces(k.Kind) {
		k.length, _ = terms.Length(k.alone(), 1)
		k.planned = k.makes.C
	}
	return k
}

// alone is a model of this op only, with tensor A as its input: layer 10 asks
// at each sum whether its model is well-formed, which would take long with all
// the other ops in it, and the terms are the same.
func (k *kernel) alone() api.Model {
	o := k.Op
	o.A = 0
	return api.Model{In: k.reads, Ops: []api.Op{o}}
}

// done is what the op makes of a and b, and what the registers did.
func (k *kernel) done(plans []api.Chan, a, b []int8) ([]int8, api.Track) {
	values, track := widened(a), api.Track{}
	switch k.Kind {
	case api.Dense, api.Conv, api.Depthwise:
		values, track = k.sums(plans, a)
		fallthrough
	case api.Rescale:
		values = scaled(values, k.SA)
	case api.Average:
		values, track = k.sums(plans, a)
		values = means(values, k.length)
	case api.Max:
		values = k.greatest(a)
	case api.Add:
		values = added(scaled(values, k.SA), scaled(widened(b), k.SB))
	}
	return k.finished(values), track
}

// sums are the registers behind each position and channel, and the Track of all
// of them.
func (k *kernel) sums(plans []api.Chan, a []int8) ([]int64, api.Track) {
	m, all := k.alone(), api.Track{}
	list := make([]int64, 0, places(k.makes))
	ws, xs := make([]int16, k.length), make([]int8, k.length)
	for at := range k.makes.H * k.makes.W {
		for i, plan := range plans {
			of, bias, _ := terms.Of(m, 1, i+1, at)
			k.lineUp(of, a, ws, xs)
			sum, track, _ := lane.Dot(ws, xs, plan.Width, plan.Depth, int32(bias))
			list, all = append(list, int64(sum)), lane.Join(all, track)
		}
	}
	return list, all
}

// lineUp puts the weights of the terms, and the numbers that they go with, side
// by side.
func (k *kernel) lineUp(of []api.Term, a []int8, ws []int16, xs []int8) {
	for i, term := range of {
		ws[i], xs[i] = int16(term.W), int8(k.Pad)
		if term.At >= 0 {
			xs[i] = a[term.At]
		}
	}
}

// greatest are the numbers of a Max. They are no sums, so that layer 10 has no
// terms for them; and its window may cover more than a sum may have.
func (k *kernel) greatest(a []int8) []int64 {
	list := make([]int64, 0, places(k.makes))
	for row := range k.makes.H {
		for column := range k.makes.W {
			for c := range k.makes.C {
				list = append(list, k.greatestUnder(a, row*k.Win.SH, column*k.Win.SW, c))
			}
		}
	}
	return list
}

// greatestUnder is the greatest number of a channel under the window whose
// corner is at that row and column of tensor A; a Max has no padding, so that
// all of the window lies within.
func (k *kernel) greatestUnder(a []int8, top, left, c int) int64 {
	greatest := int8(math.MinInt8)
	for y := top; y < top+k.Win.KH; y++ {
		for x := left; x < left+k.Win.KW; x++ {
			greatest = max(greatest, a[(y*k.reads.W+x)*k.reads.C+c])
		}
	}
	return int64(greatest)
}

// finished are values brought to what the op makes. A Zero that the kind
// doesn't use is 0, as chapter 11 asks of it.
func (k *kernel) finished(values []int64) []int8 {
	list := make([]int8, len(values))
	for i, v := range values {
		number, _ := fixq.Finish(v, k.Zero, k.Lo, k.Hi)
		list[i] = int8(number)
	}
	return list
}

func widened(numbers []int8) []int64 {
	list := make([]int64, len(numbers))
	for i, number := range numbers {
		list[i] = int64(number)
	}
	return list
}

func scaled(numbers []int64, by api.Scale) []int64 {
	list := make([]int64, len(numbers))
	for i, number := range numbers {
		list[i], _ = fixq.Apply(number, by)
	}
	return list
}

func means(sums []int64, length int) []int64 {
	list := make([]int64, len(sums))
	for i, sum := range sums {
		list[i], _ = fixq.Mean(sum, length)
	}
	return list
}

// added are the numbers of two lists of one length, place by place.
func added(these, those []int64) []int64 {
	list := make([]int64, len(these))
	for i := range list {
		list[i] = these[i] + those[i]
	}
	return list
}

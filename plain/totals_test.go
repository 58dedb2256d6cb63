package plain_test

import (
	"math"
	"math/big"
	"math/rand"
	"slices"
	"testing"

	"spillway/api"
	"spillway/model"
	"spillway/plain"
)

// P11.2: of each kind that reduces, by hand, the sums ordered by position and
// then by channel.
func TestTotalsByHand(t *testing.T) {
	in := of(1, 3, 2)
	a := []int8{1, -2, 3, -4, 5, -6}
	full := widest(api.Op{Kind: api.Dense, M: 2, Weights: []int16{1, 2, 3, 4, 5, 6, -1, 0, 0, 0, 0, 10}, Bias: []int32{10, -7}, SA: api.Scale{Mult: 1}})
	wide := widest(api.Op{Kind: api.Conv, M: 2, Win: padded(kernel(1, 2, 1, 2), 0, 1, 0, 0), Weights: []int16{1, 10, 2, 3, 1000, 0, 0, 1}, Bias: []int32{1, 0}, SA: api.Scale{Mult: 1}, Pad: 4})
	deep := widest(api.Op{Kind: api.Depthwise, Win: padded(kernel(2, 1, 1, 1), 1, 0, 0, 0), Weights: []int16{1, 2, 3, 4}, Bias: []int32{5, 6}, SA: api.Scale{Mult: 1}, Pad: -8})
	m := star(in, full, wide, deep, average(kernel(1, 2, 1, 1)))
	expectTotals(t, "dense", m, 1, a, []int64{-11, -68}, api.OK)
	expectTotals(t, "conv", m, 2, a, []int64{41, 3998, -44, 2994}, api.OK)
	expectTotals(t, "depthwise", m, 3, a, []int64{-1, -26, 3, -34, 7, -42}, api.OK)
	expectTotals(t, "average", m, 4, a, []int64{4, -6, 8, -10}, api.OK)
}

// holdTotals holds all ops of a model against the second reading, over any
// numbers, whatever the ranges.
func holdTotals(t *testing.T, r *rand.Rand, name string, m api.Model) {
	t.Helper()
	shapes, _ := model.Shapes(m)
	for i, op := range m.Ops {
		n := placesOf(shapes[op.A])
		for _, a := range [][]int8{numbersOf(r, n, -128, 127), slices.Repeat([]int8{-128}, n), slices.Repeat([]int8{127}, n)} {
			want, e := secondTotals(m, i+1, a)
			expectTotals(t, name, m, i+1, a, want, e)
		}
	}
	if t.Failed() {
		t.Fatalf("%s: %+v", name, m)
	}
}

func TestTotalsAgainstSecondReading(t *testing.T) {
	r := rand.New(rand.NewSource(112))
	for _, n := range allModels() {
		holdTotals(t, r, n.name, n.m)
	}
	for range 3000 {
		holdTotals(t, r, "random", anyModel(r, 6))
	}
}

// P11.2: the numbers of a may be any: the model's range, that of the op that
// makes tensor A and the op's own play no part, nor does what A is.
func TestTotalsWhateverTheRanges(t *testing.T) {
	in := of(1, 16, 16)
	a := everyValue()
	for _, op := range []api.Op{dense(in, 2), conv(in, 2, padded(kernel(1, 2, 1, 1), 0, 1, 0, 0)), depthwise(in, padded(kernel(1, 3, 1, 2), 0, 2, 0, 1)), average(kernel(1, 4, 1, 3))} {
		want, _ := plain.Totals(star(in, op), 1, a)
		second, _ := secondTotals(star(in, op), 1, a)
		if !slices.Equal(want, second) {
			t.Errorf("kind %d: %v; want %v", op.Kind, want, second)
		}
		narrow := op
		narrow.A, narrow.Lo, narrow.Hi = 1, 3, 3
		m := star(in, api.Op{Kind: api.Clamp, Lo: 7, Hi: 7}, narrow)
		m.Lo, m.Hi, m.Out = -1, -1, 0
		expectTotals(t, "narrow", m, 2, a, want, api.OK)
		if op.Kind != api.Average {
			m.Ops[1].SA, m.Ops[1].Zero = api.Scale{Mult: math.MaxInt32, Shift: 62}, -128
			expectTotals(t, "another scale", m, 2, a, want, api.OK)
		}
	}
}

// P11.1, P11.2: over a tensor that Tensors answers, the totals, scaled or taken
// as means, and finished, are what the op makes, place by place.
func TestTotalsOfTensors(t *testing.T) {
	m := everyKind()
	x := anyInput(rand.New(rand.NewSource(8)), m)
	tensors, _ := plain.Tensors(m, x)
	for i, op := range m.Ops {
		totals, e := plain.Totals(m, i+1, tensors[op.A])
		if e == api.ErrKind {
			continue
		}
		var made []int8
		for _, total := range totals {
			v := secondApply(big.NewInt(total), op.SA)
			if op.Kind == api.Average {
				v = rounded(big.NewInt(total), big.NewInt(int64(op.Win.KH*op.Win.KW)))
			}
			made = append(made, secondFinish(v, op.Zero, op))
		}
		if !slices.Equal(made, tensors[i+1]) {
			t.Errorf("op %d: %v of the totals; the tensor is %v", i+1, made, tensors[i+1])
		}
	}
}

// wrongLists are lists of lengths about n, and far from it, without n itself.
func wrongLists(n int) [][]int8 {
	all := [][]int8{nil, {}}
	for length := range 3*n + 2 {
		if length != n {
			all = append(all, make([]int8, length))
		}
	}
	// The right numbers stand behind the end of the list: they don't count.
	return append(all, make([]int8, 0, n), make([]int8, n-1, n), make([]int8, 1<<16+n), make([]int8, 16384), make([]int8, 16385))
}

// P11.2: lists of every wrong length, of each kind that reduces; tensor A is
// what counts, not the input.
func TestTotalsOfWrongLengths(t *testing.T) {
	in := of(4, 3, 2)
	for _, op := range oneOfEach()[:4] {
		for _, a := range wrongLists(24) {
			expectTotals(t, "first", star(in, op), 1, a, nil, api.ErrLens)
		}
		op.A = 1
		for _, a := range wrongLists(24) {
			m := star(of(4, 5, 2), average(kernel(1, 3, 1, 1)), op)
			expectTotals(t, "behind", m, 2, a, nil, api.ErrLens)
			if op.Kind == api.Average && len(a) == 40 {
				want, e := secondTotals(m, 1, a)
				expectTotals(t, "the op ahead", m, 1, a, want, e)
			}
		}
	}
}

// far are numbers that name no op, some of them wide ones whose low bits would
// name one.
func far() []int {
	return []int{-1, -2, math.MinInt, math.MinInt + 1, math.MaxInt, math.MaxInt - 1, 1 << 32, 1<<32 + 1, -1 << 32, -1<<32 + 1, 1<<62 + 1, 1 << 20, math.MaxInt32, math.MinInt32}
}

// P11.2: ErrPlace, then ErrKind, then ErrLens; each end of the ops' numbers and
// one beyond it.
func TestTotalsOrderOfErrors(t *testing.T) {
	in := of(4, 3, 2)
	right := make([]int8, 24)
	for _, m := range []api.Model{star(in, oneOfEach()...), star(in), star(in, oneOfEach()[0]), star(in, oneOfEach()[4])} {
		for _, op := range append(far(), 0, len(m.Ops)+1) {
			for _, a := range [][]int8{nil, right, right[1:], make([]int8, 25)} {
				expectTotals(t, "no such op", m, op, a, nil, api.ErrPlace)
			}
		}
	}
	ops := oneOfEach()
	for i, op := range ops {
		// The op under test stands at both ends of the list.
		m := star(in, append([]api.Op{op}, append(slices.Clone(ops), op)...)...)
		for _, number := range []int{1, i + 2, len(m.Ops)} {
			for _, a := range [][]int8{nil, right, right[1:], make([]int8, 25)} {
				want, e := secondTotals(m, number, a)
				if op.Kind > api.Average && e != api.ErrKind || op.Kind <= api.Average && len(a) != 24 && e != api.ErrLens {
					t.Fatalf("op %d of kind %d, %d numbers: the second reading answers %d", number, op.Kind, len(a), int(e))
				}
				expectTotals(t, "order", m, number, a, want, e)
			}
		}
	}
}

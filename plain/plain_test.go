package plain_test

import (
	"math"
	"math/rand"
	"slices"
	"testing"

	"spillway/api"
	"spillway/plain"
)

func sameLists(a, b [][]int8) bool {
	return slices.EqualFunc(a, b, func(x, y []int8) bool { return slices.Equal(x, y) })
}

// expectTensors asks Tensors, and Eval for the tensor that is the output.
func expectTensors(t *testing.T, name string, m api.Model, x []int8, want [][]int8, fault api.Fault) {
	t.Helper()
	got, f := plain.Tensors(m, x)
	if f != fault || !sameLists(got, want) {
		t.Errorf("%s: Tensors(%v): %v %v; want %v %v", name, x, got, f, want, fault)
	}
	var out []int8
	if fault == (api.Fault{}) {
		out = want[m.Out]
	}
	expectEval(t, name, m, x, out, fault)
}

func expectEval(t *testing.T, name string, m api.Model, x, want []int8, fault api.Fault) {
	t.Helper()
	got, f := plain.Eval(m, x)
	if f != fault || !slices.Equal(got, want) {
		t.Errorf("%s: Eval(%v): %v %v; want %v %v", name, x, got, f, want, fault)
	}
}

func expectTotals(t *testing.T, name string, m api.Model, op int, a []int8, want []int64, e api.Errno) {
	t.Helper()
	got, err := plain.Totals(m, op, a)
	if err != e || !slices.Equal(got, want) {
		t.Errorf("%s: Totals(%d, %v): %v %d; want %v %d", name, op, a, got, int(err), want, int(e))
	}
}

// expectOne is what a model of one op over that shape makes of an input.
func expectOne(t *testing.T, name string, in api.Shape, op api.Op, x, want []int8) {
	t.Helper()
	expectTensors(t, name, star(in, op), x, [][]int8{x, want}, api.Fault{})
}

// P11.1, P11.2: the chapter's first example.
func TestExampleDense(t *testing.T) {
	m := denseExample()
	expectTensors(t, "dense", m, []int8{10, 5}, [][]int8{{10, 5}, {21}}, api.Fault{})
	expectTensors(t, "dense", m, []int8{100, -100}, [][]int8{{100, -100}, {127}}, api.Fault{})
	expectTotals(t, "dense", m, 1, []int8{10, 5}, []int64{21}, api.OK)
	expectTotals(t, "dense", m, 1, []int8{100, -100}, []int64{501}, api.OK)
	expectTotals(t, "dense", m, 1, []int8{10}, nil, api.ErrLens)
}

// P11.1: the second.
func TestExampleAverageAndMax(t *testing.T) {
	in, all := of(2, 2, 1), kernel(2, 2, 1, 1)
	expectOne(t, "average", in, average(all), []int8{1, 2, 2, 2}, []int8{2})
	expectOne(t, "average", in, average(all), []int8{-1, -2, -2, -1}, []int8{-2})
	most := greatest(all)
	most.Hi = 4
	expectOne(t, "max", in, most, []int8{1, 5, 2, -7}, []int8{4})
}

// P11.1: the third.
func TestExampleAdd(t *testing.T) {
	half := api.Scale{Mult: 1, Shift: 1}
	op := api.Op{Kind: api.Add, SA: half, SB: half, Lo: -128, Hi: 127}
	expectOne(t, "add", of(1, 1, 1), op, []int8{3}, []int8{4})
	expectOne(t, "add", of(1, 1, 1), op, []int8{-3}, []int8{-4})
}

// P11.1: the fourth.
func TestExampleNoOps(t *testing.T) {
	for _, ops := range [][]api.Op{nil, {}} {
		m := api.Model{In: of(2, 1, 2), Lo: -5, Hi: 9, Ops: ops}
		x := []int8{-5, 9, 0, 3}
		expectTensors(t, "no ops", m, x, [][]int8{x}, api.Fault{})
		expectTensors(t, "one too many", m, append(x, 0), nil, api.Fault{Err: api.ErrInput})
		expectTensors(t, "beyond", m, []int8{-5, 9, 0, 10}, nil, api.Fault{Err: api.ErrInput})
	}
}

// P11.1: ops of every kind, worked out by hand.
func TestKindsByHand(t *testing.T) {
	in := of(1, 3, 2)
	x := []int8{1, -2, 3, -4, 5, -6}
	half, three := api.Scale{Mult: 1, Shift: 1}, api.Scale{Mult: 3, Shift: 2}
	full := widest(api.Op{Kind: api.Dense, M: 2, Weights: []int16{1, 2, 3, 4, 5, 6, -1, 0, 0, 0, 0, 10}, Bias: []int32{10, -7}, SA: half, Zero: 20})
	// 1-4+9-16+25-36+10 = -11, -5.5, -6; -1-60-7 = -68, -34.
	expectOne(t, "dense", in, full, x, []int8{14, -14})
	wide := widest(api.Op{Kind: api.Conv, M: 1, Win: padded(kernel(1, 2, 1, 2), 0, 1, 0, 0), Weights: []int16{1, 10, 2, 3}, Bias: []int32{1}, SA: three, Zero: -1, Pad: 4})
	// 4+40+2-6+1 = 41, 30.75; 3-40+10-18+1 = -44, -33.
	expectOne(t, "conv", in, wide, x, []int8{30, -34})
	deep := widest(api.Op{Kind: api.Depthwise, Win: padded(kernel(2, 1, 1, 1), 1, 0, 0, 0), Weights: []int16{1, 2, 3, 4}, Bias: []int32{5, 6}, SA: half, Zero: 0, Pad: -8})
	// -8+2n+5: -1, 3, 7; -24+4n+6: -26, -34, -42.
	expectOne(t, "depthwise", in, deep, x, []int8{-1, -13, 2, -17, 4, -21})
	expectOne(t, "average", in, average(kernel(1, 2, 1, 1)), x, []int8{2, -3, 4, -5})
	expectOne(t, "max", in, greatest(kernel(1, 2, 1, 1)), x, []int8{3, -2, 5, -4})
	expectOne(t, "add", in, widest(api.Op{Kind: api.Add, SA: half, SB: api.Scale{Mult: 2}, Zero: 3}), x, []int8{6, -2, 11, -7, 16, -12})
	expectOne(t, "rescale", in, widest(api.Op{Kind: api.Rescale, SA: half, Zero: -1}), x, []int8{0, -2, 1, -3, 2, -4})
	expectOne(t, "clamp", in, api.Op{Kind: api.Clamp, Lo: -4, Hi: 3}, x, []int8{1, -2, 3, -4, 3, -4})
}

// P11.1: tensors in their order, ops reading what others made; an Add whose
// two tensors aren't the same, either way round.
func TestChainByHand(t *testing.T) {
	half, one := api.Scale{Mult: 1, Shift: 1}, api.Scale{Mult: 1}
	m := star(of(1, 1, 2),
		widest(api.Op{Kind: api.Rescale, SA: api.Scale{Mult: 3}, Zero: 1}),
		widest(api.Op{Kind: api.Add, A: 0, B: 1, SA: one, SB: half}),
		widest(api.Op{Kind: api.Add, A: 1, B: 0, SA: one, SB: half}),
		api.Op{Kind: api.Clamp, A: 2, Lo: 0, Hi: 20},
		widest(api.Op{Kind: api.Dense, A: 3, M: 1, Weights: []int16{1, 2}, Bias: []int32{0}, SA: one}),
	)
	want := [][]int8{{5, -9}, {16, -26}, {13, -22}, {19, -31}, {13, 0}, {-43}}
	for out := range want {
		m.Out = out
		expectTensors(t, "chain", m, []int8{5, -9}, want, api.Fault{})
	}
}

// holdTensors holds an input's tensors against the second reading's.
func holdTensors(t *testing.T, name string, m api.Model, x []int8) [][]int8 {
	t.Helper()
	want, f := secondTensors(m, x)
	expectTensors(t, name, m, x, want, f)
	if t.Failed() {
		t.Fatalf("%s: %+v", name, m)
	}
	return want
}

// P11.1: number by number, all the models, whichever tensor is the output.
func TestAgainstSecondReading(t *testing.T) {
	r := rand.New(rand.NewSource(11))
	for _, n := range allModels() {
		tensors := holdTensors(t, n.name, n.m, anyInput(r, n.m))
		for _, end := range []int{n.m.Lo, n.m.Hi} {
			holdTensors(t, n.name, n.m, slices.Repeat([]int8{int8(end)}, placesOf(n.m.In)))
		}
		for out := range len(n.m.Ops) + 1 {
			// Of 64 ops, those at the ends and one between do.
			if len(n.m.Ops) == api.MaxOps && out > 1 && out < api.MaxOps-1 && out != 31 {
				continue
			}
			m := n.m
			m.Out = out
			expectEval(t, n.name, m, tensors[0], tensors[out], api.Fault{})
		}
	}
}

// P11.1: random models; what they make must not all lie at the ends of a
// range, or the numbers would tell little.
func TestAgainstSecondReadingRandom(t *testing.T) {
	r := rand.New(rand.NewSource(34))
	var made, within [9]int
	for range 6000 {
		m := anyModel(r, 6)
		for n, tensor := range holdTensors(t, "random", m, anyInput(r, m)) {
			if n == 0 {
				continue
			}
			op := m.Ops[n-1]
			for _, number := range tensor {
				made[op.Kind]++
				if int(number) != op.Lo && int(number) != op.Hi {
					within[op.Kind]++
				}
			}
		}
	}
	for kind := api.Dense; kind <= api.Clamp; kind++ {
		if made[kind] < 1000 || within[kind] < made[kind]/4 {
			t.Errorf("kind %d: %d numbers, %d within their range", kind, made[kind], within[kind])
		}
	}
}

// everyValue are all numbers of 8 bits, a tensor of the shape {1, 16, 16}.
func everyValue() []int8 {
	var list []int8
	for n := -128; n <= 127; n++ {
		list = append(list, int8(n))
	}
	return list
}

// P11.1: each shift, with multipliers at both ends and such as make halves; a
// Rescale and an Add of every number of 8 bits.
func TestEachShift(t *testing.T) {
	x := everyValue()
	for shift := range api.MaxShift + 1 {
		half := 1 << max(min(shift-1, 30), 0)
		for _, mult := range []int{1, half, 3*half/2 + 1, math.MaxInt32} {
			by := api.Scale{Mult: mult, Shift: shift}
			other := api.Scale{Mult: half, Shift: min(shift+1, api.MaxShift)}
			holdTensors(t, "shift", star(of(1, 16, 16),
				widest(api.Op{Kind: api.Rescale, SA: by, Zero: -1}),
				widest(api.Op{Kind: api.Add, SA: by, SB: other, Zero: 1}),
				widest(api.Op{Kind: api.Add, B: 1, SA: other, SB: by})), x)
		}
	}
}

// endSums has sums as great and as small as can be, and one next to each: 512
// weights with a bias.
func endSums(scale api.Scale) (api.Model, []int8) {
	in := of(8, 8, 8)
	op := widest(api.Op{Kind: api.Dense, M: 4, SA: scale})
	for _, w := range []int16{math.MinInt16, math.MinInt16, math.MaxInt16, math.MaxInt16} {
		op.Weights = append(op.Weights, slices.Repeat([]int16{w}, 512)...)
	}
	op.Bias = []int32{math.MaxInt32, math.MaxInt32 - 1, math.MinInt32, math.MinInt32 + 1}
	return star(in, op), slices.Repeat([]int8{-128}, 512)
}

// P11.1, P11.2: sums at both ends, under each shift.
func TestSumsAtBothEnds(t *testing.T) {
	m, x := endSums(api.Scale{Mult: 1})
	low := int64(-512*128*32767) - 1<<31
	expectTotals(t, "ends", m, 1, x, []int64{1<<32 - 1, 1<<32 - 2, low, low + 1}, api.OK)
	expectEval(t, "ends", m, x, []int8{127, 127, -128, -128}, api.Fault{})
	for shift := range api.MaxShift + 1 {
		for _, mult := range []int{1, 3, 1 << 30, math.MaxInt32} {
			m, x := endSums(api.Scale{Mult: mult, Shift: shift})
			holdTensors(t, "ends", m, x)
		}
	}
	// 2^32 - 1 times 2^31 - 1 is a little less than 2^63.
	m, x = endSums(api.Scale{Mult: math.MaxInt32, Shift: 62})
	expectEval(t, "ends", m, x, []int8{2, 2, -2, -2}, api.Fault{})
	m, x = endSums(api.Scale{Mult: math.MaxInt32, Shift: 57})
	expectEval(t, "ends", m, x, []int8{64, 64, -64, -64}, api.Fault{})
}

// P11.1: sums that are scaled to halves, of either sign, go away from zero.
func TestScaledHalves(t *testing.T) {
	op := widest(api.Op{Kind: api.Dense, M: 1, Weights: []int16{1}, Bias: []int32{0}, SA: api.Scale{Mult: 1, Shift: 2}})
	for n, want := range map[int8]int8{1: 0, 2: 1, 3: 1, 5: 1, 6: 2, 7: 2, -1: 0, -2: -1, -3: -1, -5: -1, -6: -2, -7: -2, 0: 0, 126: 32, -126: -32, -128: -32} {
		expectOne(t, "halves", of(1, 1, 1), op, []int8{n}, []int8{want})
	}
}

// P11.1: means that are halves of either sign, and next to halves.
func TestMeans(t *testing.T) {
	pair := widest(average(kernel(1, 2, 1, 1)))
	four := widest(average(kernel(2, 2, 1, 1)))
	for _, c := range []struct{ a, b, want int8 }{{1, 2, 2}, {-1, -2, -2}, {0, 1, 1}, {0, -1, -1}, {1, -2, -1}, {-1, 2, 1}, {-1, 1, 0}, {127, 126, 127}, {127, 127, 127}, {-128, -127, -128}, {-128, -128, -128}} {
		expectOne(t, "of two", of(1, 2, 1), pair, []int8{c.a, c.b}, []int8{c.want})
	}
	for _, c := range []struct{ last, want int8 }{{1, 0}, {2, 1}, {3, 1}, {4, 1}, {5, 1}, {6, 2}, {7, 2}, {-1, 0}, {-2, -1}, {-3, -1}, {-5, -1}, {-6, -2}, {-7, -2}} {
		expectOne(t, "of four", of(2, 2, 1), four, []int8{3, -3, 0, c.last}, []int8{c.want})
	}
	for a := -128; a <= 127; a++ {
		x := []int8{int8(a), 127, int8(a), -128, int8(-a - 1), 0}
		holdTensors(t, "of many", star(of(2, 3, 1), pair, four, widest(average(kernel(1, 3, 1, 1))), widest(average(kernel(2, 3, 1, 1)))), x)
	}
}

// P11.1: answers are cut off at lo and at hi, for every kind, wherever these
// lie: on one side of zero, at one number, at the ends.
func TestAnswersAreCutOff(t *testing.T) {
	r := rand.New(rand.NewSource(77))
	for _, ends := range [][2]int{{-128, 127}, {-128, -128}, {127, 127}, {0, 0}, {5, 9}, {-9, -5}, {-1, 0}, {0, 1}, {-128, -1}, {1, 127}} {
		for _, op := range oneOfEach() {
			op.Lo, op.Hi = ends[0], ends[1]
			m := star(of(4, 3, 2), op)
			for range 5 {
				for _, number := range holdTensors(t, "cut off", m, anyInput(r, m))[1] {
					if int(number) < op.Lo || int(number) > op.Hi {
						t.Errorf("kind %d, range %v: %d", op.Kind, ends, number)
					}
				}
			}
		}
	}
	one, wide := of(1, 1, 1), kernel(1, 1, 1, 1)
	unit := api.Scale{Mult: 1}
	for _, op := range []api.Op{
		{Kind: api.Dense, M: 1, Weights: []int16{1}, Bias: []int32{0}, SA: unit}, {Kind: api.Conv, M: 1, Win: wide, Weights: []int16{1}, Bias: []int32{0}, SA: unit},
		{Kind: api.Depthwise, Win: wide, Weights: []int16{1}, Bias: []int32{0}, SA: unit}, {Kind: api.Average, Win: wide}, {Kind: api.Max, Win: wide},
		{Kind: api.Add, B: 1, SA: unit, SB: unit}, {Kind: api.Rescale, SA: unit}, {Kind: api.Clamp},
	} {
		op.Lo, op.Hi = -7, 6
		for n, want := range map[int8]int8{-128: -7, -8: -7, -7: -7, -6: -6, 5: 5, 6: 6, 7: 6, 127: 6} {
			// Tensor 1 is 0 always, so that an Add of it adds nothing.
			m := star(one, api.Op{Kind: api.Clamp}, op)
			expectTensors(t, "at the ends", m, []int8{n}, [][]int8{{n}, {0}, {want}}, api.Fault{})
		}
	}
}

// P11.1: Zero is added behind the scale and ahead of the ends.
func TestZero(t *testing.T) {
	for _, zero := range []int{-128, -127, -1, 0, 1, 126, 127} {
		for _, op := range oneOfEach() {
			if op.Kind == api.Average || op.Kind == api.Max || op.Kind == api.Clamp {
				continue
			}
			op.Zero = zero
			holdTensors(t, "zero", star(of(4, 3, 2), op), slices.Repeat([]int8{7, -5, 100, -100}, 6))
			holdTensors(t, "zero", star(of(4, 3, 2), widest(op)), slices.Repeat([]int8{0, 0, 1, -1}, 6))
		}
	}
}

// P11.1: Pad stands for each number beside the plane, as it is: at both ends.
func TestPad(t *testing.T) {
	in := of(1, 1, 1)
	for _, pad := range []int{-128, -1, 0, 1, 127} {
		deep := widest(api.Op{Kind: api.Depthwise, Win: padded(kernel(3, 1, 1, 1), 1, 0, 1, 0), Weights: []int16{1, 10, 100}, Bias: []int32{0}, SA: api.Scale{Mult: 1, Shift: 7}, Pad: pad})
		wide := deep
		wide.Kind, wide.M = api.Conv, 1
		sum := int64(101*pad + 30)
		for _, op := range []api.Op{deep, wide} {
			m := star(in, op)
			expectTotals(t, "pad", m, 1, []int8{3}, []int64{sum}, api.OK)
			holdTensors(t, "pad", m, []int8{3})
		}
	}
}

// P11.1: a Max finds the greatest number at each place of its window, of its
// own channel, wherever the window stands.
func TestGreatestAtEachPlace(t *testing.T) {
	in := of(4, 5, 2)
	for _, win := range []api.Window{
		kernel(1, 1, 1, 1), kernel(1, 1, 2, 3), kernel(4, 5, 1, 1), kernel(2, 3, 1, 1), kernel(3, 2, 1, 2), kernel(2, 2, 2, 2), kernel(2, 1, 3, 2), kernel(1, 4, 32, 32), kernel(4, 1, 1, 4),
	} {
		m := star(in, widest(greatest(win)))
		for _, rest := range []int8{-128, -3, 0, 99} {
			for place := range placesOf(in) {
				x := slices.Repeat([]int8{rest}, placesOf(in))
				x[place] = 100
				y, column, c := place/10, place/2%5, place%2
				made := holdTensors(t, "max", m, x)[1]
				found := 0
				for _, number := range made {
					if number == 100 {
						found++
					}
				}
				if want := standing(y, 4, win.KH, win.SH) * standing(column, 5, win.KW, win.SW); found != want {
					t.Errorf("%+v: row %d, column %d, channel %d: found at %d positions; want %d", win, y, column, c, found, want)
				}
			}
		}
	}
	corner := greatest(kernel(2, 2, 1, 1))
	for place := range 4 {
		x := []int8{-50, -50, -50, -50}
		x[place] = -40
		expectOne(t, "all below zero", of(2, 2, 1), corner, x, []int8{-40})
	}
}

// standing counts the stops of a window along a side that cover a place.
func standing(place, side, size, step int) int {
	n := 0
	for first := 0; first+size <= side; first += step {
		if first <= place && place < first+size {
			n++
		}
	}
	return n
}

// P11.1: Out doesn't bear on the tensors, nor an op on those ahead of it.
func TestTensorsDoNotHangOnOut(t *testing.T) {
	m := everyKind()
	r := rand.New(rand.NewSource(5))
	x := anyInput(r, m)
	all, _ := plain.Tensors(m, x)
	for out := range len(m.Ops) + 1 {
		cut := m
		cut.Out = out
		expectTensors(t, "Out", cut, x, all, api.Fault{})
		cut.Ops = m.Ops[:out]
		expectTensors(t, "cut", cut, x, all[:out+1], api.Fault{})
	}
}

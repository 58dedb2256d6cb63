package plain_test

import (
	"math"
	"math/rand"
	"slices"
	"testing"

	"spillway/api"
	"spillway/model"
)

var noInput = api.Fault{Err: api.ErrInput}

// P11.1: an input has as many numbers as In has places.
func TestLengthsOfInputs(t *testing.T) {
	for _, n := range []named{{"no ops", star(of(4, 3, 2))}, {"every kind", star(of(4, 3, 2), oneOfEach()...)}, {"one place", star(of(1, 1, 1), clamp())}, {"every kind in a row", everyKind()}} {
		for _, x := range wrongLists(placesOf(n.m.In)) {
			expectTensors(t, n.name, n.m, x, nil, noInput)
		}
		holdTensors(t, n.name, n.m, make([]int8, placesOf(n.m.In)))
	}
}

// P11.1: at each place a number at Lo, at Hi, one below and one above.
func TestRangesOfInputs(t *testing.T) {
	for _, ends := range [][2]int{{-128, 127}, {-128, 126}, {-127, 127}, {0, 10}, {5, 5}, {-128, -128}, {127, 127}, {-3, -1}, {-1, 0}} {
		for _, ops := range [][]api.Op{nil, {clamp()}, oneOfEach()} {
			m := star(of(4, 3, 2), ops...)
			m.Lo, m.Hi = ends[0], ends[1]
			x := slices.Repeat([]int8{int8(m.Lo), int8(m.Hi)}, 12)
			holdTensors(t, "at the ends", m, x)
			for place := range x {
				for _, number := range []int{m.Lo - 1, m.Hi + 1, -128, 127} {
					if number < -128 || number > 127 {
						continue
					}
					other := slices.Clone(x)
					other[place] = int8(number)
					if number < m.Lo || number > m.Hi {
						expectTensors(t, "beyond", m, other, nil, noInput)
					} else {
						holdTensors(t, "within", m, other)
					}
				}
			}
		}
	}
}

// broken is a model that isn't well-formed: its fault, and what makes it of the
// model of base.
type broken struct {
	name  string
	fault api.Fault
	do    func(m *api.Model)
}

// base has three ops; one of them is made faulty.
func base() api.Model {
	in := of(4, 4, 2)
	return chain(in, conv(in, 2, padded(kernel(3, 3, 1, 1), 1, 1, 1, 1)), conv(in, 2, kernel(1, 1, 1, 1)), conv(in, 2, kernel(1, 1, 1, 1)))
}

func ofModel() []broken {
	fault := func(e api.Errno) api.Fault { return api.Fault{Err: e} }
	return []broken{
		{"no rows", fault(api.ErrShape), func(m *api.Model) { m.In.H = 0 }},
		{"a side too long", fault(api.ErrShape), func(m *api.Model) { m.In.C = api.MaxDim + 1 }},
		{"too many numbers", fault(api.ErrShape), func(m *api.Model) { m.In = of(128, 128, 2) }},
		{"sides as long as can be", fault(api.ErrShape), func(m *api.Model) { m.In = of(math.MaxInt, math.MaxInt, math.MinInt) }},
		{"Lo below", fault(api.ErrRange), func(m *api.Model) { m.Lo = -129 }},
		{"Hi above", fault(api.ErrRange), func(m *api.Model) { m.Hi = 128 }},
		{"Lo above Hi", fault(api.ErrRange), func(m *api.Model) { m.Lo, m.Hi = 1, 0 }},
		{"65 ops", fault(api.ErrMany), func(m *api.Model) { m.Ops = append(m.Ops, make([]api.Op, 62)...) }},
		{"Out below", fault(api.ErrPlace), func(m *api.Model) { m.Out = -1 }},
		{"Out above", fault(api.ErrPlace), func(m *api.Model) { m.Out = 4 }},
		{"an Add of two shapes", api.Fault{Err: api.ErrShape, Op: 2}, func(m *api.Model) { m.Ops[0] = average(kernel(2, 2, 1, 1)); m.Ops[1] = add(0, 1) }},
		{"too much work together", api.Fault{Err: api.ErrWork, Op: 3}, func(m *api.Model) {
			in := of(16, 16, 16)
			m.In = in
			for i := range m.Ops {
				m.Ops[i] = conv(in, 16, kernel(1, 1, 1, 1))
				m.Ops[i].A = i
			}
		}},
	}
}

// ofOp are the faults of one op, whichever of the three it is.
func ofOp(number int) []broken {
	var all []broken
	fault := func(name string, e api.Errno, do func(op *api.Op)) {
		all = append(all, broken{name, api.Fault{Err: e, Op: number}, func(m *api.Model) { do(&m.Ops[number-1]) }})
	}
	fault("Kind 0", api.ErrKind, func(op *api.Op) { op.Kind = 0 })
	fault("Kind 9", api.ErrKind, func(op *api.Op) { op.Kind = 9 })
	fault("its own tensor", api.ErrEdge, func(op *api.Op) { op.A = number })
	fault("a tensor below", api.ErrEdge, func(op *api.Op) { op.A = math.MinInt })
	fault("a tensor far above", api.ErrEdge, func(op *api.Op) { op.A = math.MaxInt })
	fault("an Add of its own tensor", api.ErrEdge, func(op *api.Op) { *op = add(0, number) })
	fault("an Add of a tensor below", api.ErrEdge, func(op *api.Op) { *op = add(0, -1) })
	fault("another tensor beside", api.ErrField, func(op *api.Op) { op.B = 1 })
	fault("a scale beside", api.ErrField, func(op *api.Op) { op.SB.Mult = 1 })
	fault("a Max with padding", api.ErrField, func(op *api.Op) { *op = greatest(padded(kernel(2, 2, 1, 1), 1, 0, 0, 0)) })
	fault("a Max with Zero", api.ErrField, func(op *api.Op) { *op = greatest(kernel(2, 2, 1, 1)); op.Zero = 1 })
	fault("an Average with weights", api.ErrField, func(op *api.Op) { *op = average(kernel(1, 1, 1, 1)); op.Weights = []int16{1} })
	fault("a Clamp with a scale", api.ErrField, func(op *api.Op) { *op = clamp(); op.SA.Mult = 1 })
	fault("M 0", api.ErrArg, func(op *api.Op) { op.M = 0 })
	fault("M as great as can be", api.ErrArg, func(op *api.Op) { op.M = math.MaxInt })
	fault("no window", api.ErrWindow, func(op *api.Op) { op.Win = api.Window{} })
	fault("a window that doesn't fit", api.ErrWindow, func(op *api.Op) { op.Win = kernel(5, 1, 1, 1) })
	fault("a Max whose window doesn't fit", api.ErrWindow, func(op *api.Op) { *op = greatest(kernel(1, 5, 1, 1)) })
	fault("too many numbers", api.ErrShape, func(op *api.Op) { op.M, op.Win = 1024, padded(kernel(3, 3, 1, 1), 2, 2, 2, 2) })
	fault("too long", api.ErrReduce, func(op *api.Op) { op.Win = padded(kernel(32, 32, 1, 1), 31, 31, 31, 31) })
	fault("a weight too few", api.ErrLens, func(op *api.Op) { op.Weights = op.Weights[1:] })
	fault("no weights", api.ErrLens, func(op *api.Op) { op.Weights = nil })
	fault("a bias too many", api.ErrLens, func(op *api.Op) { op.Bias = append(op.Bias, 1) })
	fault("no biases", api.ErrLens, func(op *api.Op) { op.Bias = nil })
	fault("no scale", api.ErrScale, func(op *api.Op) { op.SA = api.Scale{} })
	fault("a shift too far", api.ErrScale, func(op *api.Op) { op.SA.Shift = api.MaxShift + 1 })
	fault("an Add without its second scale", api.ErrScale, func(op *api.Op) { *op = add(0, number-1); op.SB = api.Scale{} })
	fault("Zero above", api.ErrRange, func(op *api.Op) { op.Zero = 128 })
	fault("Pad below", api.ErrRange, func(op *api.Op) { op.Pad = -129 })
	fault("Lo above Hi", api.ErrRange, func(op *api.Op) { op.Lo, op.Hi = 1, 0 })
	// 11 times 35 positions, 2 channels, sums of 512 terms.
	fault("too much work", api.ErrWork, func(op *api.Op) { *op = conv(of(4, 4, 2), 2, padded(kernel(8, 32, 1, 1), 7, 31, 7, 31)) })
	return all
}

func allBroken() []broken {
	all := ofModel()
	for number := 1; number <= 3; number++ {
		all = append(all, ofOp(number)...)
	}
	return all
}

// P11.1, P11.2, rule 3: a model that isn't well-formed is told first, whatever
// the input, the number of an op or the list beside it.
func TestFaultOfModelComesFirst(t *testing.T) {
	told := map[api.Errno]bool{}
	lists := [][]int8{nil, {}, {1}, make([]int8, 31), make([]int8, 32), make([]int8, 33), slices.Repeat([]int8{-128}, 32), slices.Repeat([]int8{127}, 32), make([]int8, 16384)}
	for _, b := range allBroken() {
		m := base()
		b.do(&m)
		if f := model.Check(m); f != b.fault {
			t.Fatalf("%s: the model's fault is %v; want %v", b.name, f, b.fault)
		}
		told[b.fault.Err] = true
		for _, x := range lists {
			expectTensors(t, b.name, m, x, nil, b.fault)
			for _, op := range append(far(), 0, 1, 2, 3, 4, 65) {
				expectTotals(t, b.name, m, op, x, nil, b.fault.Err)
			}
		}
	}
	if len(told) != 13 {
		t.Errorf("%d errors of chapter 8 told; want 13", len(told))
	}
}

// P1: whatever a model's numbers are, calls end and don't panic, and what they
// answer is what the second reading answers.
func TestDisturbedModels(t *testing.T) {
	r := rand.New(rand.NewSource(13))
	for range 10000 {
		m := anyModel(r, 4)
		x := anyInput(r, m)
		for range 1 + r.Intn(2) {
			disturb(r, &m)
		}
		if r.Intn(6) == 0 {
			x = numbersOf(r, r.Intn(80), -128, 127)
		}
		holdTensors(t, "disturbed", m, x)
		op := r.Intn(7) - 1
		want, e := secondTotals(m, op, x)
		expectTotals(t, "disturbed", m, op, x, want, e)
	}
}

// disturb sets one number of the model, or the length of one of its lists.
func disturb(r *rand.Rand, m *api.Model) {
	to := anyOf(r, 0, 1, 2, 3, -1, 4, 128, -129, 127, -128, 1024, 1025, math.MaxInt, math.MinInt, 1<<32)
	places := []*int{&m.In.H, &m.In.W, &m.In.C, &m.Lo, &m.Hi, &m.Out}
	if len(m.Ops) > 0 {
		op := &m.Ops[r.Intn(len(m.Ops))]
		w := &op.Win
		places = append(places, &op.Kind, &op.A, &op.B, &op.M, &w.KH, &w.KW, &w.SH, &w.SW, &w.Top, &w.Left, &w.Bottom, &w.Right,
			&op.SA.Mult, &op.SA.Shift, &op.SB.Mult, &op.SB.Shift, &op.Zero, &op.Pad, &op.Lo, &op.Hi)
		switch r.Intn(8) {
		case 0:
			op.Weights = op.Weights[:r.Intn(len(op.Weights)+1)]
			return
		case 1:
			op.Bias = append(op.Bias, int32(to))
			return
		}
	}
	*places[r.Intn(len(places))] = to
}

// P1: models of nothing, and of numbers as great as an int goes.
func TestModelsOfNothing(t *testing.T) {
	for _, m := range []api.Model{{}, {Ops: []api.Op{{}}}, {Ops: make([]api.Op, 1000)}, {In: of(math.MaxInt, math.MaxInt, math.MaxInt), Lo: math.MinInt, Hi: math.MaxInt, Out: math.MaxInt}} {
		for _, x := range [][]int8{nil, {}, {0}} {
			expectTensors(t, "nothing", m, x, nil, api.Fault{Err: api.ErrShape})
			for _, op := range append(far(), 0, 1) {
				expectTotals(t, "nothing", m, op, x, nil, api.ErrShape)
			}
		}
	}
}

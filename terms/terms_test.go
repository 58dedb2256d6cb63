package terms_test

import (
	"math"
	"math/rand"
	"reflect"
	"slices"
	"testing"

	"spillway/api"
	"spillway/model"
	"spillway/terms"
)

// ask makes the three calls that count.
func ask(m api.Model, op int) (counts, [3]api.Errno) {
	var c counts
	var e [3]api.Errno
	c.length, e[0] = terms.Length(m, op)
	c.channels, e[1] = terms.Channels(m, op)
	c.positions, e[2] = terms.Positions(m, op)
	return c, e
}

func expectCounts(t *testing.T, name string, m api.Model, op int, want counts, e api.Errno) {
	t.Helper()
	got, errs := ask(m, op)
	if got != want || errs != [3]api.Errno{e, e, e} {
		t.Errorf("%s: op %d: %+v %v; want %+v %d", name, op, got, errs, want, int(e))
	}
}

func expectOf(t *testing.T, name string, m api.Model, op, ch, at int, want []api.Term, bias int64, e api.Errno) {
	t.Helper()
	got, b, err := terms.Of(m, op, ch, at)
	if !slices.Equal(got, want) || b != bias || err != e {
		t.Errorf("%s: Of(%d, %d, %d): %v %d %d; want %v %d %d", name, op, ch, at, got, b, int(err), want, bias, int(e))
	}
	if e != api.OK && len(got) != 0 {
		t.Errorf("%s: Of(%d, %d, %d): a list beside an error: %v", name, op, ch, at, got)
	}
}

// listed makes terms of pairs of a weight and a place.
func listed(pairs ...int) []api.Term {
	var list []api.Term
	for pair := range slices.Chunk(pairs, 2) {
		list = append(list, api.Term{W: pair[0], At: pair[1]})
	}
	return list
}

// P10.1, P10.2: the chapter's first example.
func TestExampleDense(t *testing.T) {
	m := denseExample()
	expectCounts(t, "dense", m, 1, counts{2, 1, 1}, api.OK)
	expectOf(t, "dense", m, 1, 1, 0, listed(3, 0, -2, 1), 1, api.OK)
	expectOf(t, "channel 2", m, 1, 2, 0, nil, 0, api.ErrPlace)
	expectOf(t, "position 1", m, 1, 1, 1, nil, 0, api.ErrPlace)
	expectOf(t, "op 2", m, 2, 1, 0, nil, 0, api.ErrPlace)
}

// P10.2: the second.
func TestExampleConv(t *testing.T) {
	in := of(2, 2, 2)
	op := conv(in, 1, padded(kernel(2, 2, 1, 1), 1, 1, 0, 0))
	op.Weights = []int16{1, 2, 3, 4, 5, 6, 7, 8}
	m := star(in, op)
	expectCounts(t, "conv", m, 1, counts{8, 1, 4}, api.OK)
	expectOf(t, "conv", m, 1, 1, 0, listed(1, -1, 2, -1, 3, -1, 4, -1, 5, -1, 6, -1, 7, 0, 8, 1), -5, api.OK)
	expectOf(t, "conv", m, 1, 1, 3, listed(1, 0, 2, 1, 3, 2, 4, 3, 5, 4, 6, 5, 7, 6, 8, 7), -5, api.OK)
}

// P10.2: the third.
func TestExampleAverage(t *testing.T) {
	m := star(of(2, 2, 2), average(kernel(2, 1, 1, 1)), greatest(kernel(2, 1, 1, 1)))
	expectCounts(t, "average", m, 1, counts{2, 2, 2}, api.OK)
	expectOf(t, "average", m, 1, 2, 1, listed(1, 3, 1, 7), 0, api.OK)
	expectCounts(t, "max", m, 2, counts{}, api.ErrKind)
	expectOf(t, "max", m, 2, 1, 0, nil, 0, api.ErrKind)
}

// P10.1: ops of every kind, behind others and ahead of others, by hand.
func TestCountsByHand(t *testing.T) {
	m := everyKind()
	for i, want := range []struct {
		c counts
		e api.Errno
	}{
		{counts{}, api.ErrKind},
		{counts{18, 3, 20}, api.OK},
		{counts{}, api.ErrKind},
		{counts{4, 3, 12}, api.OK},
		{counts{}, api.ErrKind},
		{counts{2, 3, 6}, api.OK},
		{counts{}, api.ErrKind},
		{counts{12, 4, 1}, api.OK},
		{counts{4, 2, 1}, api.OK},
		{counts{}, api.ErrPlace},
	} {
		expectCounts(t, "every kind", m, i+1, want.c, want.e)
	}
	expectCounts(t, "a step of 2", skipping(), 4, counts{3, 4, 2}, api.OK)
	expectCounts(t, "an input further back", skipping(), 6, counts{30, 2, 1}, api.OK)
	expectCounts(t, "no ops", star(of(2, 2, 2)), 1, counts{}, api.ErrPlace)
	expectCounts(t, "no ops", star(of(2, 2, 2)), 0, counts{}, api.ErrPlace)
}

// P10.1: at the limits.
func TestCountsAtTheLimits(t *testing.T) {
	want := map[string][]counts{
		"131072 weights":     {{512, 256, 1}},
		"1024 channels":      {{128, 1024, 1}},
		"1024 channels of A": {{4, 1024, 9}},
		"16384 positions":    {{4, 1, 16129}, {4, 1, 15876}},
		"a wide window":      {{512, 3, 66}},
	}
	for _, n := range greatModels() {
		for i, c := range want[n.name] {
			expectCounts(t, n.name, n.m, i+1, c, api.OK)
		}
	}
	for op := range api.MaxOps {
		expectCounts(t, "64 ops", greatModels()[0].m, op+1, counts{1, 3, 2}, api.OK)
	}
	expectCounts(t, "64 ops", greatModels()[0].m, api.MaxOps+1, counts{}, api.ErrPlace)
	expectCounts(t, "16384 positions", star(of(128, 128, 1), average(kernel(1, 1, 1, 1))), 1, counts{1, 1, 16384}, api.OK)
}

// P10.2: a few sums by hand, with more than one channel on both sides, steps
// that differ, and padding at one side alone.
func TestTermsByHand(t *testing.T) {
	in := of(2, 3, 2)
	deep := depthwise(in, padded(kernel(1, 2, 1, 2), 0, 1, 0, 0))
	deep.Weights, deep.Bias = []int16{10, 20, 30, 40}, []int32{7, -8}
	wide := conv(in, 2, padded(kernel(2, 1, 2, 1), 0, 0, 1, 0))
	wide.Weights, wide.Bias = []int16{1, 2, 3, 4, 5, 6, 7, 8}, []int32{-9, 1 << 30}
	full := dense(in, 2)
	full.Weights = counted[int16](24, 1, 1)
	m := star(in, deep, wide, full)
	expectCounts(t, "depthwise", m, 1, counts{2, 2, 4}, api.OK)
	expectOf(t, "depthwise", m, 1, 1, 0, listed(10, -1, 20, 0), 7, api.OK)
	expectOf(t, "depthwise", m, 1, 2, 0, listed(30, -1, 40, 1), -8, api.OK)
	expectOf(t, "depthwise", m, 1, 1, 1, listed(10, 2, 20, 4), 7, api.OK)
	expectOf(t, "depthwise", m, 1, 2, 3, listed(30, 9, 40, 11), -8, api.OK)
	expectCounts(t, "conv", m, 2, counts{4, 2, 3}, api.OK)
	expectOf(t, "conv", m, 2, 1, 2, listed(1, 4, 2, 5, 3, 10, 4, 11), -9, api.OK)
	expectOf(t, "conv", m, 2, 2, 0, listed(5, 0, 6, 1, 7, 6, 8, 7), 1<<30, api.OK)
	expectCounts(t, "dense", m, 3, counts{12, 2, 1}, api.OK)
	expectOf(t, "dense", m, 3, 2, 0, listed(13, 0, 14, 1, 15, 2, 16, 3, 17, 4, 18, 5, 19, 6, 20, 7, 21, 8, 22, 9, 23, 10, 24, 11), 70000-90001, api.OK)
}

// P10.2: weights and biases at both their ends keep their signs.
func TestEndsOfNumbers(t *testing.T) {
	m := endsOfNumbers()
	expectOf(t, "dense", m, 1, 1, 0, listed(math.MinInt16, 0, math.MaxInt16, 1), math.MinInt32, api.OK)
	expectOf(t, "dense", m, 1, 2, 0, listed(-1, 0, 0, 1), math.MaxInt32, api.OK)
	expectOf(t, "dense", m, 1, 3, 0, listed(1, 0, math.MinInt16, 1), 0, api.OK)
	expectOf(t, "depthwise", m, 2, 1, 0, listed(math.MaxInt16, 0), math.MaxInt32, api.OK)
	expectOf(t, "depthwise", m, 2, 2, 0, listed(math.MinInt16, 1), math.MinInt32, api.OK)
}

// some are numbers from first to last: all, or, if there are many, those near
// the ends and a few between.
func some(first, last int) []int {
	var list []int
	for n := first; n <= last; n++ {
		if n-first < 6 || last-n < 6 || n%37 == 0 {
			list = append(list, n)
		}
	}
	return list
}

// holdAgainstSecond goes through all ops of a model, and through all, or some,
// of their channels and positions.
func holdAgainstSecond(t *testing.T, name string, m api.Model) {
	t.Helper()
	for op := 0; op <= len(m.Ops)+1; op++ {
		want, e := secondCounts(m, op)
		expectCounts(t, name, m, op, want, e)
		for _, ch := range some(0, want.channels+1) {
			for _, at := range some(-1, want.positions) {
				list, bias, e := second(m, op, ch, at)
				expectOf(t, name, m, op, ch, at, list, bias, e)
			}
		}
		if t.Failed() {
			t.Fatalf("%s: op %d: %+v", name, op, m)
		}
	}
}

// P10.1, P10.2: place by place.
func TestAgainstSecondReading(t *testing.T) {
	for _, n := range allModels() {
		holdAgainstSecond(t, n.name, n.m)
	}
}

func TestAgainstSecondReadingRandom(t *testing.T) {
	r := rand.New(rand.NewSource(10))
	kinds := map[int]int{}
	for range 3000 {
		m := anyModel(r, 6)
		for _, op := range m.Ops {
			kinds[op.Kind]++
		}
		holdAgainstSecond(t, "random", m)
	}
	for kind := range 8 {
		if kinds[kind+1] < 50 {
			t.Errorf("only %d ops of kind %d", kinds[kind+1], kind+1)
		}
	}
}

// far are numbers that name nothing, whatever the op, some of them wide ones
// whose low bits would name something.
func far() []int {
	return []int{-1, -2, math.MinInt, math.MinInt + 1, math.MaxInt, math.MaxInt - 1, 1 << 32, 1<<32 + 1, -1 << 32, -1<<32 + 1, 1<<62 + 1, 1 << 20, math.MaxInt32, math.MinInt32}
}

// P10.1, P10.2, rule 4: numbers at each end and beyond it, and which error
// comes first: the op's number, its kind, its channel, the position.
func TestNumbersThatNameNothing(t *testing.T) {
	for _, n := range []named{{"every kind", everyKind()}, {"skipping", skipping()}, {"no ops", star(of(1, 1, 1))}} {
		ops := append(far(), 0, 1, 2, len(n.m.Ops)-1, len(n.m.Ops), len(n.m.Ops)+1)
		for _, op := range ops {
			c, e := secondCounts(n.m, op)
			expectCounts(t, n.name, n.m, op, c, e)
			for _, ch := range append(far(), 0, 1, c.channels, c.channels+1) {
				for _, at := range append(far(), 0, c.positions-1, c.positions, c.positions+1) {
					list, bias, e := second(n.m, op, ch, at)
					expectOf(t, n.name, n.m, op, ch, at, list, bias, e)
				}
			}
		}
	}
}

// P10.1, P10.2, rule 4: an op that doesn't reduce is told ahead of a channel
// and a position that it hasn't.
func TestKindComesAheadOfChannelAndPosition(t *testing.T) {
	in := of(2, 2, 2)
	m := star(in, greatest(kernel(1, 1, 1, 1)), add(0, 0), rescale(), clamp())
	for op := 1; op <= 4; op++ {
		expectCounts(t, "alone", m, op, counts{}, api.ErrKind)
		for _, ch := range append(far(), 0, 1, 2, 3) {
			for _, at := range append(far(), 0, 3, 4) {
				expectOf(t, "alone", m, op, ch, at, nil, 0, api.ErrKind)
			}
		}
	}
	for _, op := range append(far(), 0, 5) {
		expectCounts(t, "no such op", m, op, counts{}, api.ErrPlace)
		expectOf(t, "no such op", m, op, 1, 0, nil, 0, api.ErrPlace)
	}
}

// broken is a model that isn't well-formed: the fault's error, and what makes
// it of the model of base.
type broken struct {
	name string
	err  api.Errno
	do   func(m *api.Model)
}

// base has an op that reduces, a faultless one, at 1 and at 3; op 2 is made
// faulty.
func base() api.Model {
	in := of(4, 4, 2)
	return chain(in, conv(in, 2, padded(kernel(3, 3, 1, 1), 1, 1, 1, 1)), conv(in, 2, kernel(1, 1, 1, 1)), average(kernel(2, 2, 1, 1)))
}

func ofModel() []broken {
	return []broken{
		{"no rows", api.ErrShape, func(m *api.Model) { m.In.H = 0 }},
		{"a side too long", api.ErrShape, func(m *api.Model) { m.In.C = api.MaxDim + 1 }},
		{"too many numbers", api.ErrShape, func(m *api.Model) { m.In = of(128, 128, 2) }},
		{"sides as long as can be", api.ErrShape, func(m *api.Model) { m.In = of(math.MaxInt, math.MaxInt, math.MinInt) }},
		{"Lo below", api.ErrRange, func(m *api.Model) { m.Lo = -129 }},
		{"Hi above", api.ErrRange, func(m *api.Model) { m.Hi = 128 }},
		{"Lo above Hi", api.ErrRange, func(m *api.Model) { m.Lo, m.Hi = 1, 0 }},
		{"65 ops", api.ErrMany, func(m *api.Model) { m.Ops = append(m.Ops, make([]api.Op, 62)...) }},
		{"Out below", api.ErrPlace, func(m *api.Model) { m.Out = -1 }},
		{"Out above", api.ErrPlace, func(m *api.Model) { m.Out = 4 }},
	}
}

func ofOp() []broken {
	at := func(do func(op *api.Op)) func(m *api.Model) {
		return func(m *api.Model) { do(&m.Ops[1]) }
	}
	return []broken{
		{"Kind 0", api.ErrKind, at(func(op *api.Op) { op.Kind = 0 })},
		{"Kind 9", api.ErrKind, at(func(op *api.Op) { op.Kind = 9 })},
		{"its own tensor", api.ErrEdge, at(func(op *api.Op) { op.A = 2 })},
		{"a tensor below", api.ErrEdge, at(func(op *api.Op) { op.A = math.MinInt })},
		{"another tensor beside", api.ErrField, at(func(op *api.Op) { op.B = 1 })},
		{"a scale beside", api.ErrField, at(func(op *api.Op) { op.SB.Mult = 1 })},
		{"M 0", api.ErrArg, at(func(op *api.Op) { op.M = 0 })},
		{"M as great as can be", api.ErrArg, at(func(op *api.Op) { op.M = math.MaxInt })},
		{"no window", api.ErrWindow, at(func(op *api.Op) { op.Win = api.Window{} })},
		{"a window that doesn't fit", api.ErrWindow, at(func(op *api.Op) { op.Win = kernel(5, 1, 1, 1) })},
		{"too many numbers", api.ErrShape, at(func(op *api.Op) { op.M, op.Win = 1024, padded(kernel(3, 3, 1, 1), 2, 2, 2, 2) })},
		{"too long", api.ErrReduce, at(func(op *api.Op) { op.Win = padded(kernel(32, 32, 1, 1), 31, 31, 31, 31) })},
		{"a weight too few", api.ErrLens, at(func(op *api.Op) { op.Weights = op.Weights[1:] })},
		{"no weights", api.ErrLens, at(func(op *api.Op) { op.Weights = nil })},
		{"a bias too many", api.ErrLens, at(func(op *api.Op) { op.Bias = append(op.Bias, 1) })},
		{"no biases", api.ErrLens, at(func(op *api.Op) { op.Bias = nil })},
		{"no scale", api.ErrScale, at(func(op *api.Op) { op.SA = api.Scale{} })},
		{"a shift too far", api.ErrScale, at(func(op *api.Op) { op.SA.Shift = api.MaxShift + 1 })},
		{"Zero above", api.ErrRange, at(func(op *api.Op) { op.Zero = 128 })},
		{"Pad below", api.ErrRange, at(func(op *api.Op) { op.Pad = -129 })},
		{"Lo above Hi", api.ErrRange, at(func(op *api.Op) { op.Lo, op.Hi = 1, 0 })},
		{"an Add of its own tensor", api.ErrEdge, at(func(op *api.Op) { *op = add(1, 2) })},
		{"an Add of two shapes", api.ErrShape, func(m *api.Model) { m.Ops[0] = average(kernel(2, 2, 1, 1)); m.Ops[1] = add(0, 1) }},
		{"an Add without its second scale", api.ErrScale, at(func(op *api.Op) { *op = add(0, 1); op.SB = api.Scale{} })},
		{"a Max with padding", api.ErrField, at(func(op *api.Op) { *op = greatest(padded(kernel(2, 2, 1, 1), 1, 0, 0, 0)) })},
		{"an Average with weights", api.ErrField, at(func(op *api.Op) { *op = average(kernel(1, 1, 1, 1)); op.Weights = []int16{1} })},
		{"a Depthwise with M", api.ErrField, at(func(op *api.Op) { *op = depthwise(of(4, 4, 2), kernel(1, 1, 1, 1)); op.M = 2 })},
		{"a Dense with a window", api.ErrField, at(func(op *api.Op) { *op = dense(of(4, 4, 2), 2); op.Win = kernel(1, 1, 1, 1) })},
		{"too much work", api.ErrWork, func(m *api.Model) {
			in := of(32, 32, 8)
			m.In = in
			m.Ops[0], m.Ops[1] = depthwise(in, kernel(1, 1, 1, 1)), conv(in, 8, padded(kernel(3, 3, 1, 1), 1, 1, 1, 1))
			m.Ops[1].A = 1
		}},
	}
}

// P10.1, P10.2, rule 3: a model that isn't well-formed is told first, whatever
// the numbers beside it: those of ops that have no fault, too, and the list's
// own ends.
func TestFaultOfModelComesFirst(t *testing.T) {
	told := map[api.Errno]bool{}
	for _, b := range append(ofModel(), ofOp()...) {
		m := base()
		b.do(&m)
		if f := model.Check(m); f.Err != b.err {
			t.Fatalf("%s: the model's fault is %v", b.name, f)
		}
		told[b.err] = true
		for _, op := range append(far(), 0, 1, 2, 3, 4, 65) {
			expectCounts(t, b.name, m, op, counts{}, b.err)
			for _, ch := range []int{math.MinInt, 0, 1, 2, 3, math.MaxInt} {
				for _, at := range []int{math.MinInt, -1, 0, 8, 16, math.MaxInt} {
					expectOf(t, b.name, m, op, ch, at, nil, 0, b.err)
				}
			}
		}
	}
	if len(told) != 13 {
		t.Errorf("%d errors of chapter 8 told; want 13", len(told))
	}
}

// P1: whatever a model's numbers are, calls end and don't panic, and what they
// answer is what the second reading answers.
func TestDisturbedModels(t *testing.T) {
	r := rand.New(rand.NewSource(31))
	for range 3000 {
		m := anyModel(r, 4)
		for range 1 + r.Intn(2) {
			disturb(r, &m)
		}
		op, ch, at := r.Intn(6)-1, r.Intn(5)-1, r.Intn(9)-1
		want, e := secondCounts(m, op)
		expectCounts(t, "disturbed", m, op, want, e)
		list, bias, e := second(m, op, ch, at)
		expectOf(t, "disturbed", m, op, ch, at, list, bias, e)
		if t.Failed() {
			t.Fatalf("%+v", m)
		}
	}
}

// disturb sets one number of the model, or the length of one of its lists.
func disturb(r *rand.Rand, m *api.Model) {
	to := anyOf(r, 0, 1, 2, 3, -1, 4, 128, -129, 1024, 1025, math.MaxInt, math.MinInt, 1<<32)
	places := []*int{&m.In.H, &m.In.W, &m.In.C, &m.Lo, &m.Hi, &m.Out}
	if len(m.Ops) > 0 {
		op := &m.Ops[r.Intn(len(m.Ops))]
		w := &op.Win
		places = append(places, &op.Kind, &op.A, &op.B, &op.M, &w.KH, &w.KW, &w.SH, &w.SW, &w.Top, &w.Left, &w.Bottom, &w.Right,
			&op.SA.Mult, &op.SA.Shift, &op.SB.Mult, &op.SB.Shift, &op.Zero, &op.Pad, &op.Lo, &op.Hi)
		switch r.Intn(8) {
		case 0:
			op.Weights = op.Weights[:r.Intn(len(op.Weights)+1)]
			return
		case 1:
			op.Bias = append(op.Bias, int32(to))
			return
		}
	}
	*places[r.Intn(len(places))] = to
}

const mark = 99

// roomy has the same numbers with spare room behind every list, all marked.
func roomy(m api.Model) api.Model {
	ops := make([]api.Op, len(m.Ops)+3)
	for i := range ops {
		ops[i].Kind = mark
	}
	copy(ops, m.Ops)
	for i := range m.Ops {
		weights := slices.Repeat([]int16{mark}, len(ops[i].Weights)+5)
		ops[i].Weights = weights[:copy(weights, ops[i].Weights)]
		bias := slices.Repeat([]int32{mark}, len(ops[i].Bias)+5)
		ops[i].Bias = bias[:copy(bias, ops[i].Bias)]
	}
	m.Ops = ops[:len(m.Ops)]
	return m
}

// whole is the model with its lists' spare room, all copied.
func whole(m api.Model) api.Model {
	m.Ops = slices.Clone(m.Ops[:cap(m.Ops)])
	for i, op := range m.Ops {
		m.Ops[i].Weights = slices.Clone(op.Weights[:cap(op.Weights)])
		m.Ops[i].Bias = slices.Clone(op.Bias[:cap(op.Bias)])
	}
	return m
}

// Rule 7: nothing that is handed in is changed, its spare room included.
func TestNothingIsChanged(t *testing.T) {
	for _, n := range []named{{"every kind", everyKind()}, {"skipping", skipping()}, {"sides", sides()}} {
		m := roomy(n.m)
		before := whole(m)
		for op := range len(m.Ops) + 2 {
			c, _ := ask(m, op)
			for ch := range c.channels + 2 {
				for at := range c.positions + 1 {
					terms.Of(m, op, ch, at)
				}
			}
		}
		if !reflect.DeepEqual(before, whole(m)) {
			t.Errorf("%s: the model is changed", n.name)
		}
	}
}

// Rule 7, rule 8: an answer is new memory, its spare room too, and nothing is
// kept: what is written into it is seen neither in the model nor in what is
// answered then.
func TestAnswersAreNewMemory(t *testing.T) {
	for _, n := range []named{{"the example", denseExample()}, {"every kind", everyKind()}, {"reach", reach()}} {
		m := roomy(n.m)
		before := whole(m)
		for op := 1; op <= len(m.Ops); op++ {
			first, bias, e := terms.Of(m, op, 1, 0)
			if e != api.OK {
				continue
			}
			second, _, _ := terms.Of(m, op, 1, 0)
			kept := slices.Clone(second)
			all := first[:cap(first)]
			for i := range all {
				all[i] = api.Term{W: mark, At: mark}
			}
			if !slices.Equal(second, kept) {
				t.Errorf("%s: op %d: two answers share memory", n.name, op)
			}
			expectOf(t, n.name, m, op, 1, 0, kept, bias, api.OK)
		}
		if !reflect.DeepEqual(before, whole(m)) {
			t.Errorf("%s: an answer shares memory with the model", n.name)
		}
	}
}

// Rule 7, rule 8: what is changed in a model behind a call isn't seen in the
// answer of that call, and is in the next one's.
func TestModelIsNotKept(t *testing.T) {
	m := denseExample()
	list, _, _ := terms.Of(m, 1, 1, 0)
	m.Ops[0].Weights[0], m.Ops[0].Bias[0] = 77, 78
	if !slices.Equal(list, listed(3, 0, -2, 1)) {
		t.Errorf("the answer is changed: %v", list)
	}
	expectOf(t, "changed", m, 1, 1, 0, listed(77, 0, -2, 1), 78, api.OK)
}

// Rule 6: a list that is empty is one that is nil.
func TestEmptyListsAreNil(t *testing.T) {
	for _, m := range []api.Model{everyKind(), emptyLists(everyKind())} {
		expectCounts(t, "average", m, 6, counts{2, 3, 6}, api.OK)
		expectOf(t, "average", m, 6, 3, 5, listed(1, 26, 1, 35), 0, api.OK)
	}
	for _, ops := range [][]api.Op{nil, {}} {
		expectCounts(t, "no ops", star(of(1, 1, 1), ops...), 1, counts{}, api.ErrPlace)
	}
}

// The terms hang on Weights, Bias, Win and the shapes alone: Pad, the scale,
// the ranges and Out play no part.
func TestOtherFieldsPlayNoPart(t *testing.T) {
	m := sides()
	for op := 1; op <= len(m.Ops); op++ {
		list, bias, _ := terms.Of(m, op, 2, 0)
		other := sides()
		o := &other.Ops[op-1]
		o.Lo, o.Hi = 0, 0
		if o.Kind != api.Average {
			o.Pad, o.Zero, o.SA = 127, -128, api.Scale{Mult: 1}
		}
		other.Lo, other.Hi, other.Out = 5, 6, op
		expectOf(t, "other fields", other, op, 2, 0, list, bias, api.OK)
	}
}

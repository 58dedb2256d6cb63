package kern_test

import (
	"math"
	"math/rand"
	"slices"
	"testing"

	"spillway/api"
	"spillway/kern"
)

// asked is what Op is handed.
type asked struct {
	m     api.Model
	op    int
	plans []api.Chan
	a, b  []int8
}

func (q asked) ask() ([]int8, api.Track, api.Fault) { return kern.Op(q.m, q.op, q.plans, q.a, q.b) }

func expect(t *testing.T, name string, q asked, want []int8, track api.Track) {
	t.Helper()
	got, did, f := q.ask()
	if f != (api.Fault{}) || did != track || !slices.Equal(got, want) {
		t.Errorf("%s: %v %+v %v; want %v %+v", name, got, did, f, want, track)
	}
}

// expectFault: beside a fault there are no numbers, and the Track is all 0.
func expectFault(t *testing.T, name string, q asked, want api.Fault) {
	t.Helper()
	if got, did, f := q.ask(); f != want || did != (api.Track{}) || len(got) != 0 {
		t.Errorf("%s: %v %+v %v; want %v", name, got, did, f, want)
	}
}

// hold holds what is asked against the second reading.
func hold(t *testing.T, name string, q asked) ([]int8, api.Track, api.Fault) {
	t.Helper()
	got, did, f := q.ask()
	want, track, fault := secondOp(q)
	if f != fault || did != track || !slices.Equal(got, want) {
		t.Fatalf("%s: %v %+v %v; want %v %+v %v\n%+v", name, got, did, f, want, track, fault, q)
	}
	return got, did, f
}

func narrow(depth int) api.Chan { return api.Chan{Width: 16, Depth: depth} }

func wide(depth int) api.Chan { return api.Chan{Width: 32, Depth: depth} }

// chans are an op's plans.
func chans(plans ...api.Chan) []api.Chan { return plans }

// alike is one plan for each of so many channels.
func alike(n int, p api.Chan) []api.Chan { return slices.Repeat(chans(p), n) }

// one is what the first op of a model is handed, if it reads the input alone.
func one(m api.Model, a []int8, plans ...api.Chan) asked { return asked{m, 1, plans, a, nil} }

// scaledBy is the model with that scale for its first op.
func scaledBy(mult, shift int, m api.Model) api.Model {
	m.Ops = slices.Clone(m.Ops)
	m.Ops[0].SA = api.Scale{Mult: mult, Shift: shift}
	return m
}

// P21.1, P21.2: the chapter's example 1.
func TestExampleOfPlans(t *testing.T) {
	m, x := row(1, 3, -2), []int8{10, 5}
	expect(t, "depth 2", one(m, x, narrow(2)), []int8{21}, api.Track{Muls16: 2, Adds16: 2, Adds32: 1, Low16: 20, High16: 30, Low32: 21, High32: 21})
	expect(t, "depth 1", one(m, x, narrow(1)), []int8{21}, api.Track{Muls16: 2, Adds16: 2, Adds32: 2, Low16: -10, High16: 30, Low32: 21, High32: 31})
	expect(t, "width 32", one(m, x, wide(2)), []int8{21}, api.Track{Muls32: 2, Adds32: 2, Low32: 21, High32: 31})
	expectFault(t, "depth 3", one(m, x, narrow(3)), api.Fault{Err: api.ErrDepth, Op: 1, Chan: 1})
	expectFault(t, "no plan", one(m, x), api.Fault{Err: api.ErrLens, Op: 1})
}

// P21.2: the second.
func TestExampleOfWraps(t *testing.T) {
	m, x := scaledBy(1, 9, row(0, 200, 200)), []int8{127, 127}
	expect(t, "depth 1", one(m, x, narrow(1)), []int8{99}, api.Track{Muls16: 2, Adds16: 2, Adds32: 2, Low16: 25400, High16: 25400, Low32: 25400, High32: 50800})
	expect(t, "depth 2", one(m, x, narrow(2)), []int8{-29}, api.Track{Muls16: 2, Adds16: 2, Adds32: 1, Wraps: 1, Low16: -14736, High16: 25400, Low32: -14736, High32: -14736})
}

// P21.2: ops of every kind, worked out by hand, with more than one position and
// channel, and channels of either width.
func TestKindsByHand(t *testing.T) {
	in, x := of(1, 3, 2), []int8{1, -2, 3, -4, 5, -6}
	half, three := api.Scale{Mult: 1, Shift: 1}, api.Scale{Mult: 3, Shift: 2}
	hand := func(name string, op api.Op, plans []api.Chan, b, want []int8, track api.Track) {
		t.Helper()
		op.Lo, op.Hi = -128, 127
		expect(t, name, asked{star(in, op), 1, plans, x, b}, want, track)
	}
	// 1 -4 +9 -16, +25 -36, +10: -11, -5.5; -1 -60 -7: -68, -34.
	hand("dense", api.Op{Kind: api.Dense, M: 2, Weights: []int16{1, 2, 3, 4, 5, 6, -1, 0, 0, 0, 0, 10}, Bias: []int32{10, -7}, SA: half, Zero: 20},
		chans(narrow(4), wide(6)), nil, []int8{14, -14}, api.Track{Muls16: 6, Adds16: 6, Muls32: 6, Adds32: 8, Low16: -11, High16: 25, Low32: -68, High32: 0})
	// 4 +40 +2, -6, +1: 41, 30.75; 3 -40 +10, -18, +1: -44, -33.
	hand("conv", api.Op{Kind: api.Conv, M: 1, Win: padded(kernel(1, 2, 1, 2), 0, 1, 0, 0), Weights: []int16{1, 10, 2, 3}, Bias: []int32{1}, SA: three, Zero: -1, Pad: 4},
		chans(narrow(3)), nil, []int8{30, -34}, api.Track{Muls16: 8, Adds16: 8, Adds32: 4, Low16: -37, High16: 46, Low32: -44, High32: 47})
	// -8, +2n, +5: -1, 3, 7; -24 +4n +6: -26, -34, -42.
	hand("depthwise", api.Op{Kind: api.Depthwise, Win: padded(kernel(2, 1, 1, 1), 1, 0, 0, 0), Weights: []int16{1, 2, 3, 4}, Bias: []int32{5, 6}, SA: half, Pad: -8},
		chans(narrow(1), wide(2)), nil, []int8{-1, -13, 2, -17, 4, -21}, api.Track{Muls16: 6, Adds16: 6, Muls32: 6, Adds32: 12, Low16: -8, High16: 10, Low32: -42, High32: 7})
	// 1 +3, 3 +5; -2 -4, -4 -6.
	hand("average", average(kernel(1, 2, 1, 1)),
		chans(narrow(2), wide(2)), nil, []int8{2, -3, 4, -5}, api.Track{Muls16: 4, Adds16: 4, Muls32: 4, Adds32: 6, Low16: 1, High16: 8, Low32: -10, High32: 8})
	hand("max", greatest(kernel(1, 2, 1, 1)), nil, nil, []int8{3, -2, 5, -4}, api.Track{})
	hand("add", api.Op{Kind: api.Add, SA: half, SB: api.Scale{Mult: 2}, Zero: 3}, nil, []int8{10, 0, -7, 1, 60, -64}, []int8{24, 2, -9, 3, 126, -128}, api.Track{})
	hand("add of the same", api.Op{Kind: api.Add, SA: half, SB: api.Scale{Mult: 2}, Zero: 3}, nil, x, []int8{6, -2, 11, -7, 16, -12}, api.Track{})
	hand("rescale", api.Op{Kind: api.Rescale, SA: half, Zero: -1}, nil, nil, []int8{0, -2, 1, -3, 2, -4}, api.Track{})
	hand("clamp", api.Op{Kind: api.Clamp}, nil, nil, x, api.Track{})
}

// P21.2: registers that wrap, and the number that is then made.
func TestWrapsByHand(t *testing.T) {
	const most, least = math.MaxInt32, math.MinInt32
	for _, r := range []struct {
		name  string
		m     api.Model
		x     []int8
		p     api.Chan
		want  int8
		track api.Track
	}{
		// 38100 is -27436 and 2^16; divided by 2^9 it is 74.41, and -53.59.
		{"a product", scaledBy(1, 9, row(0, 300)), []int8{127}, narrow(1), -54, api.Track{Muls16: 1, Adds16: 1, Adds32: 1, Wraps: 1, Low16: -27436, High16: -27436, Low32: -27436, High32: -27436}},
		{"the same of 32 bits", scaledBy(1, 9, row(0, 300)), []int8{127}, wide(1), 74, api.Track{Muls32: 1, Adds32: 1, Low32: 38100, High32: 38100}},
		{"a product that just doesn't", scaledBy(1, 9, row(0, 256)), []int8{-128}, narrow(1), -64, api.Track{Muls16: 1, Adds16: 1, Adds32: 1, Low16: -32768, High16: -32768, Low32: -32768, High32: -32768}},
		{"a product that just does", scaledBy(1, 9, row(0, -256)), []int8{-128}, narrow(1), -64, api.Track{Muls16: 1, Adds16: 1, Adds32: 1, Wraps: 1, Low16: -32768, High16: -32768, Low32: -32768, High32: -32768}},
		{"the greatest product", scaledBy(1, 9, row(77, -32768)), []int8{-128}, narrow(1), 0, api.Track{Muls16: 1, Adds16: 1, Adds32: 1, Wraps: 1, Low32: 77, High32: 77}},
		{"the greatest of 32 bits", scaledBy(1, 16, row(77, -32768)), []int8{-128}, wide(1), 64, api.Track{Muls32: 1, Adds32: 1, Low32: 4194381, High32: 4194381}},
		{"two products that make good", row(5, 300, -300), []int8{127, 127}, narrow(2), 5, api.Track{Muls16: 2, Adds16: 2, Adds32: 1, Wraps: 2, Low16: -27436, High16: 0, Low32: 5, High32: 5}},
		{"a sum up to the end", scaledBy(1, 9, row(0, 256, 255)), []int8{127, 1}, narrow(2), 64, api.Track{Muls16: 2, Adds16: 2, Adds32: 1, Low16: 32512, High16: 32767, Low32: 32767, High32: 32767}},
		{"a sum beyond the end", scaledBy(1, 9, row(0, 256, 256)), []int8{127, 1}, narrow(2), -64, api.Track{Muls16: 2, Adds16: 2, Adds32: 1, Wraps: 1, Low16: -32768, High16: 32512, Low32: -32768, High32: -32768}},
		{"in two blocks", scaledBy(1, 9, row(0, 256, 256)), []int8{127, 1}, narrow(1), 64, api.Track{Muls16: 2, Adds16: 2, Adds32: 2, Low16: 256, High16: 32512, Low32: 32512, High32: 32768}},
		{"a sum beyond and back", scaledBy(1, 9, row(0, 256, 256, -256)), []int8{127, 1, 1}, narrow(3), 64, api.Track{Muls16: 3, Adds16: 3, Adds32: 1, Wraps: 2, Low16: -32768, High16: 32512, Low32: 32512, High32: 32512}},
		// 32768 is -32768, and -256 is spilt behind it: -33024, divided by 2^9 -64.5.
		{"the last block shorter", scaledBy(1, 9, row(0, 256, 256, -256)), []int8{127, 1, 1}, narrow(2), -65, api.Track{Muls16: 3, Adds16: 3, Adds32: 2, Wraps: 1, Low16: -32768, High16: 32512, Low32: -33024, High32: -32768}},
		{"a spill beyond the end", scaledBy(1, 25, row(most, 1)), []int8{1}, narrow(1), -64, api.Track{Muls16: 1, Adds16: 1, Adds32: 1, Wraps: 1, Low16: 1, High16: 1, Low32: least, High32: least}},
		{"a sum of 32 bits beyond", scaledBy(1, 25, row(most, 1)), []int8{1}, wide(1), -64, api.Track{Muls32: 1, Adds32: 1, Wraps: 1, Low32: least, High32: least}},
		{"up to the end", scaledBy(1, 25, row(most-1, 1)), []int8{1}, wide(1), 64, api.Track{Muls32: 1, Adds32: 1, Low32: most, High32: most}},
		{"a spill below the end", scaledBy(1, 25, row(least, 1)), []int8{-1}, narrow(1), 64, api.Track{Muls16: 1, Adds16: 1, Adds32: 1, Wraps: 1, Low16: -1, High16: -1, Low32: most, High32: most}},
		{"a sum of 32 bits below", scaledBy(1, 25, row(least, 1)), []int8{-1}, wide(1), 64, api.Track{Muls32: 1, Adds32: 1, Wraps: 1, Low32: most, High32: most}},
		{"spilt beyond and back", scaledBy(1, 25, row(most, 1, -1)), []int8{1, 1}, narrow(1), 64, api.Track{Muls16: 2, Adds16: 2, Adds32: 2, Wraps: 2, Low16: -1, High16: 1, Low32: least, High32: most}},
		{"in one block", scaledBy(1, 25, row(most, 1, -1)), []int8{1, 1}, narrow(2), 64, api.Track{Muls16: 2, Adds16: 2, Adds32: 1, Low16: 0, High16: 1, Low32: most, High32: most}},
	} {
		expect(t, r.name, one(r.m, r.x, r.p), []int8{r.want}, r.track)
	}
}

// P21.2: the Track is that of all positions and channels: counts and wraps are
// added up, lows and highs taken of all of one width.
func TestTrackOfAll(t *testing.T) {
	in := of(1, 3, 1)
	op := api.Op{Kind: api.Conv, M: 3, Win: kernel(1, 1, 1, 1), Weights: []int16{300, -1, 300}, Bias: []int32{0, 1000, -5}, SA: api.Scale{Mult: 1, Shift: 9}, Lo: -128, Hi: 127}
	x := []int8{127, -2, 110}
	// 300 times these is 38100, -600, 33000: less 2^16 -27436, -600, -32536.
	q := one(star(in, op), x, narrow(1), narrow(1), narrow(1))
	expect(t, "narrow", q, []int8{-54, 2, -54, -1, 2, -1, -64, 2, -64},
		api.Track{Muls16: 9, Adds16: 9, Adds32: 9, Wraps: 4, Low16: -32536, High16: 2, Low32: -32541, High32: 1002})
	q.plans = chans(wide(1), narrow(1), wide(1))
	expect(t, "both", q, []int8{74, 2, 74, -1, 2, -1, 64, 2, 64},
		api.Track{Muls16: 3, Adds16: 3, Muls32: 6, Adds32: 9, Low16: -127, High16: 2, Low32: -605, High32: 38100})
	q.plans = alike(3, wide(1))
	expect(t, "wide", q, []int8{74, 2, 74, -1, 2, -1, 64, 2, 64}, api.Track{Muls32: 9, Adds32: 9, Low32: -605, High32: 38100})
	// The channel 2 alone stays within 16 bits; of it the lows are above 0.
	x = []int8{-9, -2, -5}
	q = one(star(in, op), x, wide(1), narrow(1), wide(1))
	expect(t, "above 0", q, []int8{-5, 2, -5, -1, 2, -1, -3, 2, -3},
		api.Track{Muls16: 3, Adds16: 3, Muls32: 6, Adds32: 9, Low16: 2, High16: 9, Low32: -2705, High32: 1009})
}

// P21.2: an op that doesn't reduce has no Track, whatever it reads.
func TestNoTrackWithoutSums(t *testing.T) {
	r := rand.New(rand.NewSource(3))
	for _, n := range append(smallModels(), greatModels()...) {
		for i, op := range n.m.Ops {
			if op.Kind <= 4 {
				continue
			}
			q := asked{n.m, i + 1, nil, anyNumbers(r, secondShape(n.m, op.A)), anyNumbers(r, secondShape(n.m, op.B))}
			if _, track, f := hold(t, n.name, q); track != (api.Track{}) || f != (api.Fault{}) {
				t.Errorf("%s: op %d: %+v %v", n.name, i+1, track, f)
			}
		}
	}
}

// P21.2: b stands in the place of tensor B, a in that of A, also where both are
// one tensor.
func TestAddOfATensorWithItself(t *testing.T) {
	op := api.Op{Kind: api.Add, SA: api.Scale{Mult: 1}, SB: api.Scale{Mult: 10}, Lo: -128, Hi: 127}
	m := star(of(1, 2, 1), op, op, op)
	m.Ops[1].A, m.Ops[1].B, m.Ops[2].A, m.Ops[2].B = 1, 1, 2, 0
	for number := 1; number <= 3; number++ {
		expect(t, "add", asked{m, number, nil, []int8{3, -4}, []int8{5, 6}}, []int8{53, 56}, api.Track{})
		expect(t, "add", asked{m, number, nil, []int8{5, 6}, []int8{3, -4}}, []int8{35, -34}, api.Track{})
		expect(t, "add", asked{m, number, nil, []int8{5, 6}, []int8{5, 6}}, []int8{55, 66}, api.Track{})
	}
}

// anyNumbers are any that a list may have, for a tensor of that shape: any, all
// the same, at both ends in turn, or such that a register bears longer.
func anyNumbers(r *rand.Rand, s api.Shape) []int8 {
	list := make([]int8, placesOf(s))
	way, same := r.Intn(6), int8(anyOf(r, -128, 127, anyValue(r)))
	for i := range list {
		switch way {
		case 0:
			list[i] = same
		case 1:
			list[i] = int8(-128 + 255*(i%2))
		case 2:
			list[i] = int8(anyOf(r, -128, 127))
		case 3:
			list[i] = int8(anyValue(r) / 16)
		default:
			list[i] = int8(anyValue(r))
		}
	}
	return list
}

// anyPlan is one for sums of that length: of either width, and of any depth, the
// least, the greatest and such as leave a last block that is shorter.
func anyPlan(r *rand.Rand, length int) api.Chan {
	if r.Intn(4) == 0 {
		return wide(length)
	}
	return narrow(anyOf(r, 1, length, 1+r.Intn(length), 1+r.Intn(length), max(1, length-1), 1+length/2))
}

// anyPlans are as an op needs them; their spans may be any.
func anyPlans(r *rand.Rand, m api.Model, op int) []api.Chan {
	var plans []api.Chan
	for range secondChannels(m, op) {
		p := anyPlan(r, secondLength(m, op))
		p.Part, p.Total = anyOf(r, oddSpans()...), anyOf(r, oddSpans()...)
		plans = append(plans, p)
	}
	return plans
}

// oddSpans are such as no register bears, such as aren't valid, and others.
func oddSpans() []api.Span {
	const least, most = math.MinInt64, math.MaxInt64
	return []api.Span{{}, {Lo: -20, Hi: 30}, {Lo: 5, Hi: 4}, {Lo: least, Hi: most}, {Lo: most, Hi: least}, {Lo: -32769, Hi: 32768}, {Lo: 1, Hi: 1}, {Lo: least, Hi: least}}
}

// plansOf are sets of plans for an op: all 16 wide with the least, the greatest
// and a middle depth, all 32 wide, and both in turn.
func plansOf(m api.Model, op int) [][]api.Chan {
	n, length := secondChannels(m, op), secondLength(m, op)
	if n == 0 {
		return [][]api.Chan{nil}
	}
	all := [][]api.Chan{alike(n, narrow(1)), alike(n, narrow(length)), alike(n, narrow(length/2+1)), alike(n, wide(length))}
	for first := range 2 {
		turns := alike(n, wide(length))
		for i := range turns {
			if i%2 == first {
				turns[i] = narrow(1 + i%length)
			}
		}
		all = append(all, turns)
	}
	return all
}

// askedOf is what an op is handed with these plans and any numbers.
func askedOf(r *rand.Rand, m api.Model, op int, plans []api.Chan) asked {
	o := m.Ops[op-1]
	q := asked{m, op, plans, anyNumbers(r, secondShape(m, o.A)), nil}
	if o.Kind == api.Add {
		q.b = anyNumbers(r, secondShape(m, o.B))
	}
	return q
}

// P21.2: number by number, and the Track, over all ops of all the models, with
// plans of each sort, whatever numbers are handed in.
func TestAgainstSecondReading(t *testing.T) {
	r := rand.New(rand.NewSource(21))
	for _, n := range smallModels() {
		for op := 1; op <= len(n.m.Ops); op++ {
			for _, plans := range append(plansOf(n.m, op), anyPlans(r, n.m, op)) {
				for range 4 {
					hold(t, n.name, askedOf(r, n.m, op, plans))
				}
			}
		}
	}
	for _, n := range greatModels() {
		for _, op := range some(len(n.m.Ops)) {
			for _, plans := range append(plansOf(n.m, op), anyPlans(r, n.m, op)) {
				hold(t, n.name, askedOf(r, n.m, op, plans))
			}
		}
	}
}

// some are the first of so many ops, the last, and one between.
func some(ops int) []int {
	list := []int{1, ops/2 + 1, ops}
	return slices.Compact(list)
}

// coverage counts what was seen of the ops of each kind.
type coverage struct{ all, whole, wrapped, within, made [9]int }

func (c *coverage) see(op api.Op, made []int8, track api.Track) {
	c.all[op.Kind]++
	if track.Wraps == 0 {
		c.whole[op.Kind]++
	} else {
		c.wrapped[op.Kind]++
	}
	for _, number := range made {
		c.made[op.Kind]++
		if int(number) != op.Lo && int(number) != op.Hi {
			c.within[op.Kind]++
		}
	}
}

// P21.2: random models, plans and lists; what is made must not all lie at the
// ends of a range, nor all wrap, or the numbers would tell little.
func TestAgainstSecondReadingRandom(t *testing.T) {
	r := rand.New(rand.NewSource(2102))
	var seen coverage
	for range 8000 {
		m := anyModel(r, 5)
		for op := 1; op <= len(m.Ops); op++ {
			made, track, f := hold(t, "random", askedOf(r, m, op, anyPlans(r, m, op)))
			if f != (api.Fault{}) {
				t.Fatalf("%v", f)
			}
			seen.see(m.Ops[op-1], made, track)
		}
	}
	for kind := api.Dense; kind <= api.Clamp; kind++ {
		if seen.all[kind] < 1000 || seen.within[kind] < seen.made[kind]/4 {
			t.Errorf("kind %d: %d ops, %d numbers, %d within their range", kind, seen.all[kind], seen.made[kind], seen.within[kind])
		}
		wraps := kind <= api.Depthwise
		if seen.whole[kind] < 300 || wraps && seen.wrapped[kind] < 300 {
			t.Errorf("kind %d: %d without wraps, %d with", kind, seen.whole[kind], seen.wrapped[kind])
		}
	}
}

// P21.2: each depth that an op has, and each channel with a depth of its own.
func TestEachDepth(t *testing.T) {
	r := rand.New(rand.NewSource(22))
	in := of(4, 3, 2)
	for _, m := range []api.Model{star(in, oneOfEach()...), steeper(star(in, oneOfEach()...), 9)} {
		for op := 1; op <= 4; op++ {
			n, length := secondChannels(m, op), secondLength(m, op)
			for depth := 1; depth <= length; depth++ {
				hold(t, "all alike", askedOf(r, m, op, alike(n, narrow(depth))))
				plans := alike(n, narrow(depth))
				for i := range plans {
					plans[i].Depth = 1 + (depth+5*i)%length
				}
				hold(t, "each its own", askedOf(r, m, op, plans))
				plans[depth%n] = wide(length)
				hold(t, "one of them wide", askedOf(r, m, op, plans))
			}
		}
	}
}

// long is a Dense of 512 terms: two channels of weights that go up to the ends
// of 16 bits, one of small ones.
func long(bias int32) api.Model {
	op := api.Op{Kind: api.Dense, M: 3, SA: api.Scale{Mult: 1, Shift: 24}, Lo: -128, Hi: 127, Bias: []int32{bias, -bias, bias}}
	for i := range 3 * api.MaxReduce {
		w := []int16{math.MinInt16, math.MaxInt16, int16(i%7 - 3)}[i/api.MaxReduce]
		op.Weights = append(op.Weights, w)
	}
	return star(of(8, 8, 8), op)
}

// P21.2: sums as long as can be, at the ends of what registers hold, of all
// biases that tell.
func TestLongSums(t *testing.T) {
	r := rand.New(rand.NewSource(23))
	for _, bias := range []int32{0, 1, -1, math.MaxInt32, -math.MaxInt32, math.MinInt32, 1 << 30, -1 << 30} {
		m := long(bias)
		for _, x := range []int8{-128, 127, 1, 0} {
			for _, depth := range []int{1, 2, 3, 100, 171, 255, 256, 257, 511, 512} {
				q := asked{m, 1, chans(narrow(depth), narrow(513-depth), wide(512)), slices.Repeat([]int8{x}, 512), nil}
				hold(t, "long", q)
			}
			hold(t, "long, wide", asked{m, 1, alike(3, wide(512)), slices.Repeat([]int8{x}, 512), nil})
		}
		hold(t, "long, any", askedOf(r, m, 1, anyPlans(r, m, 1)))
	}
	// 512 times 32768 times 128 is 2^31, which is one more than the end.
	x := slices.Repeat([]int8{-128}, 512)
	made, track, _ := asked{long(0), 1, alike(3, wide(512)), x, nil}.ask()
	if made[0] != -128 || track.Wraps != 1 || track.Low32 != math.MinInt32 {
		t.Errorf("2^31: %v %+v", made, track)
	}
	made, track, _ = asked{long(-1), 1, alike(3, wide(512)), x, nil}.ask()
	if made[0] != 127 || track.Wraps != 0 || track.High32 != math.MaxInt32 {
		t.Errorf("2^31 - 1: %v %+v", made, track)
	}
}

// P21.2: Part and Total change nothing, whatever they are.
func TestSpansAreNotLookedAt(t *testing.T) {
	r := rand.New(rand.NewSource(24))
	for _, n := range smallModels() {
		for op := 1; op <= len(n.m.Ops); op++ {
			q := askedOf(r, n.m, op, anyPlans(r, n.m, op))
			want, track, _ := hold(t, n.name, q)
			for _, s := range oddSpans() {
				for i := range q.plans {
					q.plans[i].Part, q.plans[i].Total = s, oddSpans()[i%len(oddSpans())]
				}
				expect(t, n.name, q, want, track)
				for i, p := range q.plans {
					q.plans[i].Part, q.plans[i].Total = p.Total, p.Part
				}
				expect(t, n.name, q, want, track)
			}
		}
	}
}

// P21.2: what the model declares, which tensor is its output, and the ops behind
// this one bear on nothing, nor do those ahead but by their shapes.
func TestOnlyTheOpCounts(t *testing.T) {
	r := rand.New(rand.NewSource(25))
	for _, n := range smallModels() {
		for op := 1; op <= len(n.m.Ops); op++ {
			q := askedOf(r, n.m, op, anyPlans(r, n.m, op))
			want, track, _ := hold(t, n.name, q)
			for out := range op + 1 {
				q.m.Out = out
				q.m.Lo, q.m.Hi = -out, out
				q.m.Ops = n.m.Ops[:op]
				expect(t, n.name, q, want, track)
			}
			q.m.Ops = slices.Clone(n.m.Ops)
			for i := range op - 1 {
				q.m.Ops[i].Lo, q.m.Ops[i].Hi = 7, 7
			}
			expect(t, n.name, q, want, track)
		}
	}
}

// P21.2: Pad stands for each number beside the plane, at both its ends, and goes
// through narrow registers like any other.
func TestPad(t *testing.T) {
	in := of(1, 1, 1)
	for _, pad := range []int{-128, -1, 0, 1, 127} {
		deep := api.Op{Kind: api.Depthwise, Win: padded(kernel(3, 1, 1, 1), 1, 0, 1, 0), Weights: []int16{1, 10, 100}, Bias: []int32{0}, SA: api.Scale{Mult: 1}, Pad: pad, Lo: -128, Hi: 127}
		flat := deep
		flat.Kind, flat.M = api.Conv, 1
		for _, op := range []api.Op{deep, flat} {
			low, high := min(pad, pad+30, 101*pad+30), max(pad, pad+30, 101*pad+30)
			made := int8(max(-128, min(127, 101*pad+30)))
			expect(t, "pad", one(star(in, op), []int8{3}, narrow(3)), []int8{made},
				api.Track{Muls16: 3, Adds16: 3, Adds32: 1, Low16: low, High16: high, Low32: 101*pad + 30, High32: 101*pad + 30})
			op.Weights = []int16{400, 10, 400}
			hold(t, "a pad that wraps", one(star(in, op), []int8{3}, narrow(2)))
			hold(t, "a pad that doesn't", one(star(in, op), []int8{3}, wide(3)))
		}
	}
}

// P21.2: each shift, with multipliers at both ends and such as make halves, of
// registers at both ends.
func TestEachShift(t *testing.T) {
	in, x := of(1, 1, 1), []int8{1}
	for shift := range api.MaxShift + 1 {
		half := 1 << max(min(shift-1, 30), 0)
		for _, mult := range []int{1, half, 3*half/2 + 1, math.MaxInt32} {
			by := api.Scale{Mult: mult, Shift: shift}
			for _, bias := range []int32{math.MaxInt32 - 1, math.MinInt32, 0, -2, 2, -4, 5, 1 << 20, -1 << 20} {
				op := api.Op{Kind: api.Dense, M: 1, Weights: []int16{1}, Bias: []int32{bias}, SA: by, Zero: -1, Lo: -128, Hi: 127}
				hold(t, "shift", one(star(in, op), x, anyOfTwo(shift)))
			}
			sum := api.Op{Kind: api.Add, SA: by, SB: api.Scale{Mult: half, Shift: shift}, Zero: 1, Lo: -128, Hi: 127}
			for _, n := range []int8{-128, -3, -1, 0, 1, 3, 127} {
				hold(t, "shift", asked{star(in, sum), 1, nil, []int8{n}, []int8{-n}})
				hold(t, "shift", asked{star(in, sum), 1, nil, []int8{n}, []int8{n}})
				hold(t, "shift", one(star(in, api.Op{Kind: api.Rescale, SA: by, Zero: 2, Lo: -128, Hi: 127}), []int8{n}))
			}
		}
	}
}

// anyOfTwo is a plan of either width for a single term.
func anyOfTwo(n int) api.Chan { return []api.Chan{narrow(1), wide(1)}[n%2] }

// P21.2: answers are cut off at lo and at hi, for every kind, wherever these lie,
// and Zero is added ahead of that.
func TestAnswersAreCutOff(t *testing.T) {
	r := rand.New(rand.NewSource(26))
	for _, ends := range [][2]int{{-128, 127}, {-128, -128}, {127, 127}, {0, 0}, {5, 9}, {-9, -5}, {-1, 0}, {0, 1}, {-128, -1}, {1, 127}} {
		for _, zero := range []int{-128, -1, 0, 1, 127} {
			for i, op := range oneOfEach() {
				op.Lo, op.Hi = ends[0], ends[1]
				if op.SA != (api.Scale{}) {
					op.Zero = zero
				}
				m := star(of(4, 3, 2), op)
				made, _, _ := hold(t, "cut off", askedOf(r, m, 1, anyPlans(r, m, 1)))
				if low, high := slices.Min(made), slices.Max(made); int(low) < op.Lo || int(high) > op.Hi {
					t.Errorf("kind %d, range %v: %v", i+1, ends, made)
				}
			}
		}
	}
}

// P21.2: a Max finds the greatest number at each place of its window, of its own
// channel, also where all are below 0 and where the window is wider than a sum
// is long.
func TestGreatestAtEachPlace(t *testing.T) {
	in := of(4, 5, 2)
	for _, win := range []api.Window{
		kernel(1, 1, 1, 1), kernel(1, 1, 2, 3), kernel(4, 5, 1, 1), kernel(2, 3, 1, 1), kernel(3, 2, 1, 2), kernel(2, 2, 2, 2), kernel(2, 1, 3, 2), kernel(1, 4, 32, 32), kernel(4, 1, 1, 4),
	} {
		m := star(in, api.Op{Kind: api.Max, Win: win, Lo: -128, Hi: 127})
		for _, rest := range []int8{-128, -3, 0, 99} {
			for place := range placesOf(in) {
				x := slices.Repeat([]int8{rest}, placesOf(in))
				x[place] = 100
				hold(t, "max", one(m, x))
				x[place] = rest + 1
				hold(t, "max", one(m, x))
			}
		}
	}
	far := of(40, 40, 1)
	m := star(far, api.Op{Kind: api.Max, Win: kernel(32, 32, 1, 1), Lo: -128, Hi: 127})
	for _, place := range []int{0, 31, 39, 31 * 40, 31*40 + 31, 39*40 + 39, 20*40 + 20} {
		x := slices.Repeat([]int8{-128}, placesOf(far))
		x[place] = -127
		hold(t, "max of 1024", one(m, x))
	}
}

package kern_test

import (
	"math"
	"math/rand"
	"slices"
	"testing"

	"spillway/api"
	"spillway/model"
)

// P21.1, rule 3: of a model that isn't well-formed layer 8's fault is told, its
// Op too, whatever goes with it.
func TestModelsThatAreNotWellFormed(t *testing.T) {
	told := map[api.Errno]bool{}
	plans := [][]api.Chan{nil, {{}}, alike(2, narrow(1)), alike(2, wide(2)), alike(2, narrow(0)), alike(3, api.Chan{Width: 8})}
	lists := [][]int8{nil, {}, {1}, make([]int8, 31), make([]int8, 32), make([]int8, 33)}
	for _, b := range brokenModels() {
		m := b.model()
		if f := model.Check(m); f != b.fault {
			t.Fatalf("%s: the model's fault is %v; want %v", b.name, f, b.fault)
		}
		told[b.fault.Err] = true
		for _, op := range append(noOps(3), 1, 2, 3) {
			for i, x := range lists {
				for _, p := range plans {
					expectFault(t, b.name, asked{m, op, p, x, lists[len(lists)-1-i]}, b.fault)
				}
			}
		}
	}
	if len(told) != 13 {
		t.Errorf("%d errors of chapter 8 told; want 13", len(told))
	}
}

// noOps are numbers of ops that a model of so many hasn't; of some the low bits
// would name one.
func noOps(ops int) []int {
	return []int{0, -1, -2, ops + 1, ops + 2, -ops, 64, 65, math.MinInt, math.MinInt + 1, math.MaxInt, 1 << 32, 1<<32 + 1, -1<<32 + 1, 1<<16 + 1, 1<<8 + 1}
}

// noPlace is what is told of such a number: of no op.
var noPlace = api.Fault{Err: api.ErrPlace}

// P21.1: ErrPlace of no op, unless the model has that op, whatever goes with it;
// the first and the last one it has.
func TestNumbersOfOps(t *testing.T) {
	r := rand.New(rand.NewSource(31))
	for _, n := range append(smallModels(), greatModels()[0]) {
		ops := len(n.m.Ops)
		for _, op := range noOps(ops) {
			if op == 64 && ops == 64 {
				continue
			}
			expectFault(t, n.name, asked{n.m, op, nil, nil, nil}, noPlace)
			expectFault(t, n.name, asked{n.m, op, chans(narrow(1)), make([]int8, placesOf(n.m.In)), make([]int8, placesOf(n.m.In))}, noPlace)
			expectFault(t, n.name, asked{n.m, op, chans(api.Chan{}), make([]int8, 5), nil}, noPlace)
		}
		for op := 1; op <= ops; op++ {
			if _, _, f := hold(t, n.name, askedOf(r, n.m, op, anyPlans(r, n.m, op))); f != (api.Fault{}) {
				t.Errorf("%s: op %d: %v", n.name, op, f)
			}
		}
	}
}

// wrongLists are lists that haven't so many numbers.
func wrongLists(n int) [][]int8 {
	return [][]int8{nil, {}, make([]int8, n-1), make([]int8, n+1), make([]int8, 2*n), make([]int8, 2*n+1), make([]int8, n+1<<8), make([]int8, n+1<<16)}
}

func lens(op int) api.Fault { return api.Fault{Err: api.ErrLens, Op: op} }

// P21.1: a has as many numbers as tensor A; of an Add b as many as tensor B; of
// every other op b isn't looked at.
func TestLengthsOfLists(t *testing.T) {
	r := rand.New(rand.NewSource(32))
	for _, n := range smallModels() {
		for i, o := range n.m.Ops {
			good := askedOf(r, n.m, i+1, anyPlans(r, n.m, i+1))
			want, track, _ := hold(t, n.name, good)
			for _, list := range wrongLists(placesOf(secondShape(n.m, o.A))) {
				q := good
				q.a = list
				expectFault(t, n.name, q, lens(i+1))
				q.b = list
				expectFault(t, n.name, q, lens(i+1))
				q.a = good.a
				if o.Kind == api.Add {
					expectFault(t, n.name, q, lens(i+1))
				} else {
					expect(t, n.name, q, want, track)
				}
			}
			if o.Kind != api.Add {
				good.b = good.a
				expect(t, n.name, good, want, track)
			}
		}
	}
}

// P21.1: lists of other tensors' lengths don't do: that of tensor A counts, not
// of the input, of the one ahead or of what is made.
func TestLengthsOfOtherTensors(t *testing.T) {
	m := skipping()
	for i, o := range m.Ops {
		n := placesOf(secondShape(m, o.A))
		plans := alike(secondChannels(m, i+1), narrow(1))
		for tensor := range len(m.Ops) + 1 {
			x := make([]int8, placesOf(secondShape(m, tensor)))
			_, _, f := hold(t, "skipping", asked{m, i + 1, plans, x, nil})
			if want := len(x) == n; (f == api.Fault{}) != want {
				t.Errorf("op %d: tensor %d: %v", i+1, tensor, f)
			}
		}
	}
}

// P21.1: a plan for each channel, where the op reduces, and none, where it
// doesn't; nil and empty are one.
func TestNumbersOfPlans(t *testing.T) {
	r := rand.New(rand.NewSource(33))
	for _, n := range smallModels() {
		for i := range n.m.Ops {
			q := askedOf(r, n.m, i+1, anyPlans(r, n.m, i+1))
			want, track, _ := hold(t, n.name, q)
			count, length := secondChannels(n.m, i+1), max(1, secondLength(n.m, i+1))
			for _, other := range []int{0, 1, count - 1, count + 1, 2 * count, count + 2, count + 1<<8, count + 1<<16} {
				if other < 0 {
					continue
				}
				for _, p := range chans(narrow(1), wide(length), api.Chan{}, narrow(length+1), api.Chan{Width: 17, Depth: 1}) {
					q.plans = alike(other, p)
					if other != count {
						expectFault(t, n.name, q, lens(i+1))
					} else if count == 0 {
						expect(t, n.name, q, want, track)
						q.plans = nil
						expect(t, n.name, q, want, track)
					}
				}
			}
		}
	}
}

// farNumbers are numbers as a width or a depth may be, far from those that are
// right; of some the low bits would be 16, 32 or 1.
func farNumbers() []int {
	return []int{
		math.MinInt, math.MinInt + 16, math.MinInt + 1, math.MaxInt, math.MaxInt - 1, -1, -2, -16, -32, 1<<32 + 16, 1<<32 + 32, 1<<32 + 1, 1<<16 + 16,
		1<<8 + 16, 1<<8 + 32, 1<<16 + 32, -1<<32 + 16, -1<<32 + 1, math.MaxInt32, math.MinInt32, 1 << 62,
	}
}

// noWidths are neither 16 nor 32.
func noWidths() []int { return append(farNumbers(), 0, 1, 8, 15, 17, 24, 31, 33, 48, 64) }

// noDepths are none of an op of that length.
func noDepths(length int) []int {
	return append(farNumbers(), 0, length+1, length+2, 2*length+1, length+1<<8, length+1<<16, length+1<<32, -length)
}

// manyChannels are ops of each kind that reduces, with five channels.
func manyChannels() []api.Op {
	in := of(4, 3, 5)
	return []api.Op{dense(in, 5), conv(in, 5, padded(kernel(2, 2, 1, 1), 1, 1, 0, 0)), depthwise(in, padded(kernel(3, 2, 1, 1), 0, 1, 1, 0)), average(kernel(2, 3, 1, 1))}
}

// turnedPlan is what is asked with another plan for one channel.
func turnedPlan(q asked, ch int, p api.Chan) asked {
	q.plans = slices.Clone(q.plans)
	q.plans[ch-1] = p
	return q
}

// P21.1: widths and depths, of the first, a middle and the last channel, of each
// kind, behind other ops too.
func TestWidthsAndDepths(t *testing.T) {
	r := rand.New(rand.NewSource(34))
	for _, op := range manyChannels() {
		op.A = 1
		m := star(of(4, 3, 5), rescale(), op)
		length := secondLength(m, 2)
		for _, ch := range []int{1, 3, 5} {
			for _, good := range [][]api.Chan{alike(5, narrow(2)), alike(5, wide(length)), anyPlans(r, m, 2)} {
				q := askedOf(r, m, 2, good)
				for _, width := range noWidths() {
					for _, depth := range []int{1, length, 0, length + 1, math.MinInt} {
						expectFault(t, "width", turnedPlan(q, ch, api.Chan{Width: width, Depth: depth}), api.Fault{Err: api.ErrWidth, Op: 2, Chan: ch})
					}
				}
				for _, depth := range noDepths(length) {
					expectFault(t, "depth", turnedPlan(q, ch, narrow(depth)), api.Fault{Err: api.ErrDepth, Op: 2, Chan: ch})
					expectFault(t, "depth", turnedPlan(q, ch, wide(depth)), api.Fault{Err: api.ErrDepth, Op: 2, Chan: ch})
				}
				for depth := 1; depth <= length; depth++ {
					hold(t, "depth", turnedPlan(q, ch, narrow(depth)))
					if depth < length {
						expectFault(t, "depth", turnedPlan(q, ch, wide(depth)), api.Fault{Err: api.ErrDepth, Op: 2, Chan: ch})
					}
				}
				hold(t, "the length", turnedPlan(q, ch, wide(length)))
			}
		}
	}
}

// P21.1: an op of one term has one depth alone, of either width.
func TestDepthsOfOneTerm(t *testing.T) {
	m := row(3, 5)
	expect(t, "narrow", one(m, []int8{2}, narrow(1)), []int8{13}, api.Track{Muls16: 1, Adds16: 1, Adds32: 1, Low16: 10, High16: 10, Low32: 13, High32: 13})
	expect(t, "wide", one(m, []int8{2}, wide(1)), []int8{13}, api.Track{Muls32: 1, Adds32: 1, Low32: 13, High32: 13})
	for _, depth := range []int{-1, 0, 2, 3} {
		expectFault(t, "narrow", one(m, []int8{2}, narrow(depth)), api.Fault{Err: api.ErrDepth, Op: 1, Chan: 1})
		expectFault(t, "wide", one(m, []int8{2}, wide(depth)), api.Fault{Err: api.ErrDepth, Op: 1, Chan: 1})
	}
}

// P21.1: where several faults apply, the first one is told: lists ahead of all
// plans; an earlier channel ahead of a later one, whatever each has; of one
// channel the width.
func TestFirstOfSeveralFaults(t *testing.T) {
	r := rand.New(rand.NewSource(35))
	for _, op := range manyChannels() {
		m := star(of(4, 3, 5), rescale(), op)
		length := secondLength(m, 2)
		faulty := map[api.Errno][]api.Chan{
			api.ErrWidth: {{}, {Width: 8, Depth: 1}, {Width: 64, Depth: length + 1}},
			api.ErrDepth: {narrow(0), narrow(length + 1), wide(length - 1), wide(length + 1)},
		}
		q := askedOf(r, m, 2, alike(5, narrow(1)))
		for e, firsts := range faulty {
			for _, first := range firsts {
				for _, second := range append(faulty[api.ErrWidth], faulty[api.ErrDepth]...) {
					for ch := 1; ch < 5; ch++ {
						both := turnedPlan(turnedPlan(q, ch, first), ch+1+r.Intn(5-ch), second)
						expectFault(t, "two channels", both, api.Fault{Err: e, Op: 2, Chan: ch})
						for _, list := range wrongLists(60) {
							both.a = list
							expectFault(t, "a list too", both, lens(2))
						}
						both.a, both.plans = q.a, both.plans[:4]
						expectFault(t, "a plan too few", both, lens(2))
						both.plans = append(both.plans, first, second)
						expectFault(t, "a plan too many", both, lens(2))
					}
				}
			}
		}
	}
}

// P21.1: of an Add all three lists are asked for.
func TestListsOfAnAdd(t *testing.T) {
	m := star(of(2, 3, 1), rescale(), add(0, 1), add(1, 1))
	for _, op := range []int{2, 3} {
		for _, a := range []int{0, 5, 6, 7} {
			for _, b := range []int{0, 5, 6, 7} {
				for _, plans := range [][]api.Chan{nil, {}, {narrow(1)}, {wide(1)}} {
					q := asked{m, op, plans, make([]int8, a), make([]int8, b)}
					if a == 6 && b == 6 && len(plans) == 0 {
						hold(t, "add", q)
					} else {
						expectFault(t, "add", q, lens(op))
					}
				}
			}
		}
	}
}

// spoil sets one thing of what is asked to something else.
func spoil(r *rand.Rand, q asked) asked {
	switch r.Intn(7) {
	case 0:
		q.op = anyOf(r, append(noOps(len(q.m.Ops)), 1, 2, 3)...)
	case 1:
		q.a = make([]int8, r.Intn(len(q.a)+3))
	case 2:
		q.b = make([]int8, r.Intn(len(q.b)+3))
	case 3:
		q.plans = slices.Clone(q.plans)[:r.Intn(len(q.plans)+1)]
	case 4:
		q.plans = append(slices.Clone(q.plans), narrow(1))
	default:
		if len(q.plans) > 0 {
			ch := 1 + r.Intn(len(q.plans))
			p := q.plans[ch-1]
			if r.Intn(2) == 0 {
				p.Width = anyOf(r, append(noWidths(), 16, 32)...)
			} else {
				p.Depth = anyOf(r, append(noDepths(p.Depth), 1, p.Depth-1, p.Depth+1)...)
			}
			q = turnedPlan(q, ch, p)
		}
	}
	return q
}

// P1, P21.1: random models, ops, plans and lists, some of which are spoilt, and
// models of which numbers are disturbed: no call panics, and each answers what
// the second reading does.
func TestFaultsAgainstSecondReading(t *testing.T) {
	r := rand.New(rand.NewSource(36))
	told := map[api.Errno]int{}
	for range 30000 {
		m := anyModel(r, 4)
		if len(m.Ops) == 0 {
			continue
		}
		op := 1 + r.Intn(len(m.Ops))
		q := askedOf(r, m, op, anyPlans(r, m, op))
		if r.Intn(4) == 0 {
			disturb(r, &q.m)
		}
		for range r.Intn(4) {
			q = spoil(r, q)
		}
		_, _, f := hold(t, "spoilt", q)
		told[f.Err]++
	}
	for _, e := range []api.Errno{api.OK, api.ErrPlace, api.ErrLens, api.ErrWidth, api.ErrDepth, api.ErrShape, api.ErrRange, api.ErrKind, api.ErrEdge, api.ErrField, api.ErrArg, api.ErrWindow, api.ErrScale} {
		if told[e] < 10 {
			t.Errorf("the error %d is told %d times only", int(e), told[e])
		}
	}
}

// P1: models of nothing, and of numbers as great as an int goes, with lists of
// any kind.
func TestModelsOfNothing(t *testing.T) {
	for _, m := range []api.Model{{}, {Ops: []api.Op{{}}}, {Ops: make([]api.Op, 1000)}, {In: of(math.MaxInt, math.MaxInt, math.MaxInt), Lo: math.MinInt, Hi: math.MaxInt, Out: math.MaxInt}} {
		for _, op := range append(noOps(1), 1) {
			for _, x := range [][]int8{nil, {}, {0}} {
				expectFault(t, "nothing", asked{m, op, chans(api.Chan{}), x, x}, api.Fault{Err: api.ErrShape})
				expectFault(t, "nothing", asked{m, op, nil, x, x}, api.Fault{Err: api.ErrShape})
			}
		}
	}
	expectFault(t, "an op of nothing", one(star(of(1, 1, 1), api.Op{}), []int8{0}), api.Fault{Err: api.ErrKind, Op: 1})
	for _, op := range noOps(0) {
		expectFault(t, "no ops", asked{star(of(1, 1, 1)), op, nil, []int8{0}, nil}, noPlace)
	}
}

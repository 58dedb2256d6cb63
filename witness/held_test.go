package witness_test

import (
	"math/rand"
	"slices"
	"testing"

	"spillway/api"
	"spillway/bound"
	"spillway/depth"
	"spillway/lane"
	"spillway/model"
	"spillway/plain"
	"spillway/plan"
	"spillway/terms"
	"spillway/witness"
)

// manyModels are the small ones, such that are steeper, and random ones.
func manyModels(r *rand.Rand, n int) []named {
	all := smallModels()
	for _, one := range smallModels() {
		all = append(all, named{one.name + ", steeper", steeper(one.m, 4)})
	}
	for range n {
		all = append(all, named{"random", anyModel(r, 4)})
	}
	return all
}

// alone is a model of an op only, whose input is its tensor A.
func alone(m api.Model, op int) api.Model {
	shapes, _ := model.Shapes(m)
	o := m.Ops[op-1]
	in := shapes[o.A]
	o.A = 0
	return star(in, o)
}

// holds: are they all numbers of the span, as many as tensor A has?
func holds(m api.Model, op int, s api.Span, x []int8) bool {
	shapes, _ := model.Shapes(m)
	a := shapes[m.Ops[op-1].A]
	for _, n := range x {
		if int64(n) < s.Lo || int64(n) > s.Hi {
			return false
		}
	}
	return len(x) == a.H*a.W*a.C
}

// holdEnd holds a witness's sum to an end of layer 13's Total, by layer 11's
// Totals: of the op where it stands, and of the op alone.
func holdEnd(t *testing.T, name string, m api.Model, at place, s api.Span, w api.Witness, e api.Errno, end int64) {
	t.Helper()
	positions, _ := terms.Positions(m, at.op)
	channels, _ := terms.Channels(m, at.op)
	if e != api.OK || w.At < 0 || w.At >= positions || !holds(m, at.op, s, w.X) {
		t.Fatalf("%s: %v over %v: %v %d", name, at, s, w, int(e))
	}
	number := w.At*channels + at.ch - 1
	within, e1 := plain.Totals(m, at.op, w.X)
	by, e2 := plain.Totals(alone(m, at.op), 1, w.X)
	if e1 != api.OK || e2 != api.OK || within[number] != end || by[number] != end {
		t.Errorf("%s: %v over %v: %v comes to %d, alone to %d; want %d", name, at, s, w, within[number], by[number], end)
	}
}

// holdBothEnds holds Low and High of a channel.
func holdBothEnds(t *testing.T, name string, m api.Model, at place, s, total api.Span) {
	t.Helper()
	low, e := witness.Low(m, at.op, at.ch, s)
	holdEnd(t, name+", Low", m, at, s, low, e, total.Lo)
	high, e := witness.High(m, at.op, at.ch, s)
	holdEnd(t, name+", High", m, at, s, high, e, total.Hi)
}

// P23.1: against layers 11 and 13.
func TestEndsAgainstLayers(t *testing.T) {
	r := rand.New(rand.NewSource(234))
	for _, n := range manyModels(r, 1500) {
		for _, at := range some(places(n.m), 6) {
			for _, s := range list(anySpan(r), span(-128, 127), span(7, 7)) {
				total, _ := bound.Total(n.m, at.op, at.ch, s)
				holdBothEnds(t, n.name, n.m, at, s, total)
			}
		}
	}
}

// spread are the weights of a sum's terms, by layer 10, and what they go with
// over these numbers.
func spread(m api.Model, at place, position int, x []int8) (weights []int16, numbers []int8) {
	row, _, _ := terms.Of(m, at.op, at.ch, position)
	for _, term := range row {
		weights = append(weights, int16(term.W))
		if term.At < 0 {
			numbers = append(numbers, int8(m.Ops[at.op-1].Pad))
		} else {
			numbers = append(numbers, x[term.At])
		}
	}
	return weights, numbers
}

// holdLeak holds a leak of that depth to layer 10's terms, and has it break the
// registers of layer 20.
func holdLeak(t *testing.T, name string, m api.Model, at place, s api.Span, k int, l api.Leak) {
	t.Helper()
	length, _ := terms.Length(m, at.op)
	positions, _ := terms.Positions(m, at.op)
	single, block := l.Upto == l.From+1, l.From%k == 0 && l.Upto <= l.From+k
	if l.At < 0 || l.At >= positions || l.From < 0 || l.Upto <= l.From || l.Upto > length || !single && !block || !holds(m, at.op, s, l.X) {
		t.Fatalf("%s: %v over %v, depth %d: %v", name, at, s, k, l)
	}
	weights, numbers := spread(m, at, l.At, l.X)
	sum := int64(0)
	for i := l.From; i < l.Upto; i++ {
		sum += int64(weights[i]) * int64(numbers[i])
	}
	_, track, e := lane.Dot(weights, numbers, 16, k, 0)
	if isInt16(sum) || track.Wraps == 0 || e != api.OK {
		t.Errorf("%s: %v over %v, depth %d: %v comes to %d; the registers: %+v %d", name, at, s, k, l, sum, track, int(e))
	}
}

// P23.2: against layers 10, 18 and 20, with every depth.
func TestBreakAgainstLayers(t *testing.T) {
	r := rand.New(rand.NewSource(235))
	var all tally
	for _, n := range manyModels(r, 700) {
		for _, at := range some(places(n.m), 4) {
			s := anyOf(r, anySpan(r), span(-128, 127))
			length, _ := terms.Length(n.m, at.op)
			for _, k := range upTo(length) {
				l, found, e := witness.Break(n.m, at.op, at.ch, s, k)
				if safe, _ := depth.Safe(n.m, at.op, at.ch, s, k); e != api.OK || found == safe {
					t.Fatalf("%s: %v over %v, depth %d: %v %v %d; safe: %v", n.name, at, s, k, l, found, int(e), safe)
				}
				all.count(l, found, k, length)
				if found {
					holdLeak(t, n.name, n.m, at, s, k, l)
				} else if !noLeak(l) {
					t.Errorf("%s: %v beside false", n.name, l)
				}
			}
		}
	}
	if all.whole < 1000 || all.single < 1000 || all.block < 1000 || all.shorter < 50 {
		t.Errorf("what Break answered: %+v", all)
	}
}

// P23.4: with layer 18's Most, and with one more.
func TestMostAndOneMore(t *testing.T) {
	r := rand.New(rand.NewSource(236))
	none, between, whole := 0, 0, 0
	for _, n := range manyModels(r, 2000) {
		for _, at := range some(places(n.m), 6) {
			s := anyOf(r, anySpan(r), span(-128, 127))
			length, _ := terms.Length(n.m, at.op)
			most, _ := depth.Most(n.m, at.op, at.ch, s)
			if most > 0 {
				expectNoLeak(t, n.name, n.m, at.op, at.ch, s, most, api.OK)
			}
			if most == length {
				expectNoLeak(t, n.name, n.m, at.op, at.ch, s, most+1, api.ErrDepth)
				whole++
				continue
			}
			l, found, e := witness.Break(n.m, at.op, at.ch, s, most+1)
			if !found || e != api.OK || most == 0 && l.Upto != l.From+1 {
				t.Fatalf("%s: %v over %v: Most is %d, and Break with one more %v %v %d", n.name, at, s, most, l, found, int(e))
			}
			holdLeak(t, n.name, n.m, at, s, most+1, l)
			if most == 0 {
				none++
			} else {
				between++
			}
		}
	}
	if none < 300 || between < 300 || whole < 300 {
		t.Errorf("Most was 0 %d times, %d times below the length, %d times the length", none, between, whole)
	}
}

// holdTight holds a planned channel, over the range of what its op reads.
func holdTight(t *testing.T, name string, m api.Model, at place, s api.Span, p api.Chan) {
	t.Helper()
	holdBothEnds(t, name, m, at, s, p.Total)
	length, _ := terms.Length(m, at.op)
	if p.Width == 16 && p.Depth == length {
		return
	}
	k := p.Depth + 1
	if p.Width == 32 {
		k = 1
	}
	l, found, e := witness.Break(m, at.op, at.ch, s, k)
	if !found || e != api.OK {
		t.Fatalf("%s: %v over %v: %v is planned, and nothing breaks", name, at, s, p)
	}
	holdLeak(t, name, m, at, s, k, l)
}

// P5: of what the planner writes each Total is reached at both ends; where a
// channel is 32 wide, some product isn't int16; where it is 16 wide with a depth
// below the length, some block of one term more leaves int16.
func TestPlansAreTight(t *testing.T) {
	r := rand.New(rand.NewSource(237))
	widths, less := map[int]int{}, 0
	for _, n := range manyModels(r, 1500) {
		c, f := plan.Plan(n.m)
		if f != (api.Fault{}) {
			continue
		}
		for _, at := range some(places(n.m), 8) {
			p := c.Plans[at.op-1][at.ch-1]
			holdTight(t, n.name, n.m, at, c.Ranges[n.m.Ops[at.op-1].A], p)
			widths[p.Width]++
			if length, _ := terms.Length(n.m, at.op); p.Width == 16 && p.Depth < length {
				less++
			}
		}
	}
	if widths[16] < 500 || widths[32] < 300 || less < 200 {
		t.Errorf("plans by width: %v, %d with less than the length", widths, less)
	}
}

// everyList goes through all lists of so many numbers of the span.
func everyList(n int, s api.Span, do func([]int8)) {
	list := slices.Repeat([]int8{int8(s.Lo)}, n)
	for {
		do(list)
		i := 0
		for i < n && int64(list[i]) == s.Hi {
			list[i] = int8(s.Lo)
			i++
		}
		if i == n {
			return
		}
		list[i]++
	}
}

// breaks: does a list break a register of 16 bits that begins anew every so many
// terms?
func (r reading) breaks(k int, x []int8) bool {
	for at := range r.cells {
		for j := range r.length {
			if !isInt16(r.come(at, j, j+1, x)) || !isInt16(r.come(at, j/k*k, j+1, x)) {
				return true
			}
		}
	}
	return false
}

// P23.1, P23.2: over all numbers that a small op can read: no sum is less than
// Low's, none greater than High's, and Break finds something just where some
// list of numbers breaks a register.
func TestOverAllNumbers(t *testing.T) {
	r := rand.New(rand.NewSource(238))
	leaks, others := 0, 0
	for range 2500 {
		in := anyOf(r, of(1, 1, 1), of(1, 2, 1), of(2, 1, 1), of(1, 1, 3), of(1, 3, 1), of(2, 2, 1), of(1, 2, 2), of(1, 1, 5))
		m := star(in, anyOp(r, []api.Shape{in}))
		if model.Check(m) != (api.Fault{}) || !model.Reduces(m.Ops[0].Kind) {
			continue
		}
		m = steeper(m, anyOf[int16](r, 1, 1, 3))
		lo := anyOf(r, -128, -3, -1, 0, 1, 100, 125, int64(anyValue(r)))
		s := span(lo, min(127, lo+int64(r.Intn(3))))
		ch := 1 + r.Intn(secondChannels(m, 1))
		drawn := read(m, 1, ch, s)
		sums, broken := none(), make([]bool, drawn.length+1)
		everyList(drawn.places, s, func(x []int8) {
			for at := range drawn.cells {
				sums.take(drawn.bias + drawn.come(at, 0, drawn.length, x))
			}
			for k := 1; k <= drawn.length; k++ {
				broken[k] = broken[k] || drawn.breaks(k, x)
			}
		})
		holdBothEnds(t, "all numbers", m, place{1, ch}, s, api.Span(sums))
		for k := 1; k <= drawn.length; k++ {
			l, found, e := witness.Break(m, 1, ch, s, k)
			if e != api.OK || found != broken[k] || found && !drawn.isLeak(l, k) {
				t.Fatalf("channel %d over %v, depth %d: %v %v %d; broken: %v\n%+v", ch, s, k, l, found, int(e), broken[k], m)
			}
			if found {
				leaks++
			} else {
				others++
			}
		}
	}
	if leaks < 1000 || others < 1000 {
		t.Errorf("%d leaks, %d depths without", leaks, others)
	}
}

package trim_test

import (
	"math"
	"math/rand"
	"slices"
	"strconv"
	"testing"

	"spillway/api"
	"spillway/model"
	"spillway/trim"
)

// threeOps are those of the chapter's example.
func threeOps() api.Model {
	cut := api.Op{Kind: api.Clamp, Lo: -5, Hi: 5}
	sum := api.Op{Kind: api.Add, A: 1, B: 1, SA: api.Scale{Mult: 1}, SB: api.Scale{Mult: 1}, Lo: -128, Hi: 127}
	return declaring(-9, 9, star(of(1, 1, 1), cut, cut, sum))
}

// from is the model with another output.
func from(out int, m api.Model) api.Model {
	m.Out = out
	return m
}

// The chapter's example, and the same with each other output.
func TestExample1(t *testing.T) {
	m := threeOps()
	cut, sum := m.Ops[0], m.Ops[2]
	with := func(out int, ops ...api.Op) api.Model {
		return api.Model{In: of(1, 1, 1), Lo: -9, Hi: 9, Ops: ops, Out: out}
	}
	expectLive(t, "1", m, true, true, false, true)
	expectTrim(t, "1", m, with(2, cut, sum))
	expectLive(t, "Out 0", from(0, m), true, false, false, false)
	expectTrim(t, "Out 0", from(0, m), with(0))
	expectLive(t, "Out 1", from(1, m), true, true, false, false)
	expectTrim(t, "Out 1", from(1, m), with(1, cut))
	expectLive(t, "Out 2", from(2, m), true, false, true, false)
	expectTrim(t, "Out 2", from(2, m), with(1, cut))
}

// worked is a model whose live tensors, and what is left of it, were found by
// hand.
type worked struct {
	name  string
	whole api.Model
	live  string
	left  api.Model
}

// byHand are graphs; a node that is left has the mark that it had.
func byHand() []worked {
	line := marked([]int{0}, []int{1}, []int{2}, []int{3})
	return []worked{
		{"no ops", graph(0), "1", graph(0)},
		{"all fall away", graph(0, line...), "10000", graph(0)},
		{"none falls away", graph(4, line...), "11111", graph(4, line...)},
		{"what stands behind the output", graph(2, line...), "11100", graph(2, line[:2]...)},
		{"the first alone", graph(1, line...), "11000", graph(1, line[0])},
		{"the last alone", graph(3, marked([]int{0}, []int{1}, []int{0})...), "1001", graph(1, at(3, 0))},
		{"every other one", graph(5, marked([]int{0}, []int{0}, []int{1}, []int{2}, []int{3})...), "110101", graph(3, at(1, 0), at(3, 1), at(5, 2))},
		{"needed by several", graph(4, marked([]int{0}, []int{1}, []int{1}, []int{3, 2})...), "11111", graph(4, marked([]int{0}, []int{1}, []int{1}, []int{3, 2})...)},
		{"needed by one of several", graph(3, marked([]int{0}, []int{1}, []int{1}, []int{3, 2})...), "11010", graph(2, at(1, 0), at(3, 1))},
		{"needed through B alone", graph(4, marked([]int{0}, []int{0}, []int{0}, []int{0, 2})...), "10101", graph(2, at(2, 0), at(4, 0, 1))},
		{"needed through A alone", graph(4, marked([]int{0}, []int{0}, []int{0}, []int{2, 0})...), "10101", graph(2, at(2, 0), at(4, 1, 0))},
		{"through B of B", graph(5, marked([]int{0}, []int{0}, []int{0, 2}, []int{1}, []int{0, 3})...), "101101", graph(3, at(2, 0), at(3, 0, 1), at(5, 0, 2))},
		{"A and B far from each other", graph(5, marked([]int{0}, []int{0}, []int{0}, []int{0}, []int{4, 1})...), "110011", graph(3, at(1, 0), at(4, 0), at(5, 2, 1))},
		{"B behind A", graph(5, marked([]int{0}, []int{0}, []int{0}, []int{0}, []int{1, 4})...), "110011", graph(3, at(1, 0), at(4, 0), at(5, 1, 2))},
		{"an Add of one tensor twice", graph(4, marked([]int{0}, []int{0}, []int{2}, []int{3, 3})...), "10111", graph(3, at(2, 0), at(3, 1), at(4, 2, 2))},
		{"an Add of the input twice", graph(3, marked([]int{0}, []int{1, 1}, []int{0, 0})...), "1001", graph(1, at(3, 0, 0))},
		{"needed only by what isn't needed", graph(2, marked([]int{0}, []int{0}, []int{1}, []int{1, 3}, []int{4, 2})...), "101000", graph(1, at(2, 0))},
		{"the first falls away", graph(3, marked([]int{0}, []int{0}, []int{2})...), "1011", graph(2, at(2, 0), at(3, 1))},
		{"two ways that meet", graph(6, marked([]int{0}, []int{1}, []int{0}, []int{3}, []int{4}, []int{5, 2})...), "1111111", graph(6, marked([]int{0}, []int{1}, []int{0}, []int{3}, []int{4}, []int{5, 2})...)},
	}
}

func liveText(live []bool) string {
	text := ""
	for _, is := range live {
		if is {
			text += "1"
		} else {
			text += "0"
		}
	}
	return text
}

// P24.1, P24.2: which are needed, and the new numbers of A, B and Out.
func TestByHand(t *testing.T) {
	for _, e := range byHand() {
		live, f := trim.Live(e.whole)
		if got := liveText(live); f != (api.Fault{}) || got != e.live {
			t.Errorf("%s: Live: %s %v; want %s", e.name, got, f, e.live)
		}
		expectTrim(t, e.name, e.whole, e.left)
	}
}

// P24.1, P24.2: all graphs of up to four ops, with each tensor as the output.
func TestEveryGraph(t *testing.T) {
	graphs := 0
	for count := range 5 {
		everyGraph(count, func(nodes []node) {
			for out := range count + 1 {
				hold(t, "a graph", graph(out, nodes...))
				graphs++
			}
		})
	}
	if want := 1 + 2*2 + 2*6*3 + 2*6*12*4 + 2*6*12*20*5; graphs != want {
		t.Errorf("%d graphs; want %d", graphs, want)
	}
}

// P24.1, P24.2: models of every kind of op, with each tensor as the output.
func TestEachOutput(t *testing.T) {
	for _, n := range smallModels() {
		for out := range len(n.m.Ops) + 1 {
			hold(t, n.name+", Out "+strconv.Itoa(out), from(out, n.m))
		}
	}
}

// utmost are ops with fields as great, or as small, as they may be.
func utmost() []api.Op {
	far := api.Scale{Mult: math.MaxInt32, Shift: api.MaxShift}
	wide := dense(of(4, 3, 2), api.MaxDim)
	wide.SA, wide.Zero, wide.Lo, wide.Hi = far, 127, 127, 127
	wide.Weights[0], wide.Weights[len(wide.Weights)-1] = math.MinInt16, math.MaxInt16
	wide.Bias[0], wide.Bias[len(wide.Bias)-1] = math.MinInt32, math.MaxInt32
	deep := conv(of(4, 3, 2), 5, padded(kernel(8, 32, 32, 32), 7, 31, 7, 30))
	deep.SA, deep.Zero, deep.Pad, deep.Lo, deep.Hi = far, -128, 127, -128, -128
	apart := depthwise(of(4, 3, 2), padded(kernel(32, 16, 32, 31), 31, 14, 30, 15))
	apart.SA, apart.Zero, apart.Pad, apart.Lo, apart.Hi = far, 127, -128, -128, 127
	sum := add(0, 0)
	sum.SA, sum.SB, sum.Zero = far, api.Scale{Mult: 1}, -128
	return []api.Op{wide, deep, apart, sum}
}

// P24.2: each kind of op, kept with all of its fields, where it stands behind
// ops that fall away, between those that do, and ahead of such.
func TestAllElseStays(t *testing.T) {
	in := of(4, 3, 2)
	for _, op := range append(oneOfEach(), utmost()...) {
		name := "kind " + strconv.Itoa(op.Kind)
		behind, now := op, op
		behind.A, now.A = 2, 1
		for _, b := range []struct{ was, is int }{{0, 0}, {2, 1}, {4, 2}} {
			if op.Kind == api.Add {
				behind.B, now.B = b.was, b.is
			}
			ops := []api.Op{clamp(), rescale(), dense(in, 3), clamp(), average(kernel(2, 2, 1, 1)), behind, clamp(), add(0, 4)}
			left := star(in, rescale(), now)
			if op.Kind == api.Add && b.is == 2 {
				left = star(in, rescale(), clamp(), now)
			}
			m := declaring(-77, 66, from(6, star(in, ops...)))
			if f := model.Check(m); f != (api.Fault{}) {
				t.Fatalf("%s: %v", name, f)
			}
			expectTrim(t, name, m, declaring(-77, 66, left))
		}
		expectTrim(t, name+", alone", star(in, op), star(in, op))
		expectTrim(t, name+", fallen away", from(0, star(in, op)), star(in))
		expectTrim(t, name+", fallen away from another", from(1, star(in, clamp(), op)), star(in, clamp()))
	}
}

// P24.2: In, Lo and Hi stay, whatever is left.
func TestInputStays(t *testing.T) {
	for _, s := range []api.Span{{Lo: -128, Hi: 127}, {Lo: -128, Hi: -128}, {Lo: 127, Hi: 127}, {Lo: 0, Hi: 0}, {Lo: -3, Hi: 90}} {
		for _, in := range []api.Shape{of(1, 1, 1), of(3, 5, 7), of(1024, 1, 16), of(1, 16, 1024), of(16, 1024, 1)} {
			for out := range 4 {
				m := declaring(int(s.Lo), int(s.Hi), from(out, star(in, clamp(), rescale(), add(1, 0))))
				less := trimmed(t, "the input", m)
				if less.In != in || less.Lo != int(s.Lo) || less.Hi != int(s.Hi) {
					t.Errorf("%v over %v, Out %d: %+v", in, s, out, less)
				}
				hold(t, "the input", m)
			}
		}
	}
}

// many is a graph of as many nodes as can be, made by what each reads.
func many(out int, reads func(number int) []int) api.Model {
	var nodes []node
	for number := 1; number <= api.MaxOps; number++ {
		nodes = append(nodes, node{number, reads(number)})
	}
	return graph(out, nodes...)
}

// P24.1, P24.2: the most ops, of which all are needed, one, every other one,
// those behind the first, and none.
func TestMostOps(t *testing.T) {
	const most = api.MaxOps
	for _, e := range []struct {
		name string
		m    api.Model
		left []int
		out  int
	}{
		{"a line", many(most, func(n int) []int { return []int{n - 1} }), upTo(1, most, 1), most},
		{"a line of Adds", many(most, func(n int) []int { return []int{n - 1, n - 1} }), upTo(1, most, 1), most},
		{"each of all ahead", many(most, func(n int) []int { return []int{n - 1, max(n-2, 0)} }), upTo(1, most, 1), most},
		{"all of the input", many(most, func(n int) []int { return []int{0} }), []int{most}, 1},
		{"all of the input, the first", many(1, func(n int) []int { return []int{0} }), []int{1}, 1},
		{"two lines", many(most, func(n int) []int { return []int{max(n-2, 0)} }), upTo(2, most, 2), most / 2},
		{"two lines, the other", many(most-1, func(n int) []int { return []int{max(n-2, 0)} }), upTo(1, most-1, 2), most / 2},
		{"none", many(0, func(n int) []int { return []int{n - 1} }), nil, 0},
		{"all but the last", many(most-1, func(n int) []int { return []int{n - 1} }), upTo(1, most-1, 1), most - 1},
		{"halves", many(most, func(n int) []int { return []int{n / 2} }), []int{1, 2, 4, 8, 16, 32, 64}, 7},
	} {
		less := trimmed(t, e.name, e.m)
		var marks []int
		for _, op := range less.Ops {
			marks = append(marks, -op.Lo)
		}
		if !slices.Equal(marks, e.left) || less.Out != e.out {
			t.Errorf("%s: %v are left, Out %d; want %v, Out %d", e.name, marks, less.Out, e.left, e.out)
		}
		hold(t, e.name, e.m)
	}
}

// upTo are the numbers from the first to the last, by steps.
func upTo(first, last, step int) []int {
	var all []int
	for n := first; n <= last; n += step {
		all = append(all, n)
	}
	return all
}

// P24.1, P24.2: the greatest lists, kept and fallen away.
func TestGreatModels(t *testing.T) {
	for _, n := range greatWithOutputs() {
		hold(t, n.name, n.m)
	}
	great := dense(of(8, 8, 8), 255)
	m := star(of(8, 8, 8), clamp(), great)
	left := m
	expectTrim(t, "kept behind a dead one", m, star(of(8, 8, 8), great))
	m.Out, left.Ops, left.Out = 1, m.Ops[:1], 1
	expectTrim(t, "fallen away", m, left)
}

// Random models, and random graphs of up to as many ops as there may be.
func TestRandomModels(t *testing.T) {
	r := rand.New(rand.NewSource(241))
	fallen, kept := 0, 0
	for range 4000 {
		m := anyModel(r, 10)
		hold(t, "random", m)
		fallen, kept = fallen+len(m.Ops), kept+len(trimmed(t, "random", m).Ops)
	}
	if kept < 2000 || fallen-kept < 2000 {
		t.Errorf("%d ops, of which %d are kept", fallen, kept)
	}
	for range 3000 {
		hold(t, "a tangle", tangle(r, 1+r.Intn(api.MaxOps), 1+r.Intn(12)))
	}
}

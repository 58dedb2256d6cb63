package plan_test

import (
	"fmt"
	"math"
	"math/rand"
	"slices"
	"testing"

	"spillway/api"
)

func far() []int16 { return slices.Repeat([]int16{math.MinInt16}, 512) }

// between is a Clamp to that range.
func between(lo, hi int) api.Op { return api.Op{Kind: api.Clamp, Lo: lo, Hi: hi} }

// rows is a Dense of as many channels as there are biases.
func rows(biases []int32, weights ...int16) api.Op {
	return api.Op{Kind: api.Dense, M: len(biases), Weights: weights, Bias: biases, SA: api.Scale{Mult: 1}, Lo: -128, Hi: 127}
}

// over is the op, reading that tensor.
func over(op api.Op, a int) api.Op {
	op.A = a
	return op
}

// clamped is what sums come to in an op of rows.
func clamped(s api.Span) api.Span {
	return span(max(-128, min(127, s.Lo)), max(-128, min(127, s.Hi)))
}

// exampleCert is the one of chapter 15's example 1.
func exampleCert() api.Cert {
	return api.Cert{Ranges: list(span(0, 10), span(-19, 31)), Plans: [][]api.Chan{chans(narrow(2, span(-20, 30), span(-19, 31)))}}
}

// The chapter's examples.
func TestExamplesOfChapter(t *testing.T) {
	expectPlan(t, "1", denseExample(), exampleCert())
	expectFault(t, "2", row(0, far()...), tooWideAt(1, 1))
	expectPlan(t, "2", star(of(1, 1, 1)), api.Cert{Ranges: list(span(-128, 127))})
}

// The document's examples 2 to 5.
func TestExamplesOfDocument(t *testing.T) {
	alone := func(m api.Model, lo, hi int64, comes api.Span, p api.Chan) (api.Model, api.Cert) {
		return declaring(int(lo), int(hi), m), api.Cert{Ranges: list(span(lo, hi), comes), Plans: [][]api.Chan{chans(p)}}
	}
	whole := span(-128, 127)
	for i, x := range []struct {
		m      api.Model
		lo, hi int64
		comes  api.Span
		p      api.Chan
	}{
		{row(1, 3, -2), 0, 10, span(-19, 31), narrow(2, span(-20, 30), span(-19, 31))},
		{row(0, 300, 1), -128, 127, whole, wide(2, span(-38528, 38227), span(-38528, 38227))},
		{row(0, 200, 200), 0, 127, span(0, 127), narrow(1, span(0, 25400), span(0, 50800))},
		{row(-1, far()...), -128, 127, whole, wide(512, span(-127*512*32768-1, math.MaxInt32), span(-127*512*32768-1, math.MaxInt32))},
	} {
		m, want := alone(x.m, x.lo, x.hi, x.comes, x.p)
		expectPlan(t, fmt.Sprint("example ", i+2), m, want)
	}
	expectFault(t, "example 5", row(0, far()...), tooWideAt(1, 1))
	expectPlan(t, "example 5, a narrower range", declaring(-127, 127, row(0, far()...)), api.Cert{
		Ranges: list(span(-127, 127), whole),
		Plans:  [][]api.Chan{chans(wide(512, span(-127*512*32768, 127*512*32768), span(-127*512*32768, 127*512*32768)))},
	})
}

// P19.2: without ops: the declared range alone, and no plans.
func TestModelsWithoutOps(t *testing.T) {
	for _, s := range list(span(-128, 127), span(0, 0), span(-128, -128), span(127, 127), span(-5, 9), span(3, 4)) {
		for _, in := range []api.Shape{of(1, 1, 1), of(3, 2, 5), of(1024, 16, 1)} {
			expectPlan(t, "no ops", declaring(int(s.Lo), int(s.Hi), star(in)), api.Cert{Ranges: list(s)})
		}
	}
}

// P19.2: ops that don't reduce have ranges, and no plans: alone, ahead of such
// as do, and behind them.
func TestOpsThatDoNotReduce(t *testing.T) {
	in := of(4, 3, 2)
	one := api.Scale{Mult: 1}
	others := []api.Op{
		{Kind: api.Max, Win: kernel(2, 2, 1, 1), Lo: -5, Hi: 6},
		{Kind: api.Add, SA: one, SB: one, Zero: 1, Lo: -100, Hi: 100},
		{Kind: api.Rescale, SA: api.Scale{Mult: 1, Shift: 1}, Zero: -2, Lo: -9, Hi: 100},
		between(2, 3),
	}
	comes := list(span(-5, 6), span(-13, 21), span(-6, 3), span(2, 3))
	small := average(kernel(1, 1, 1, 1))
	mean := chans(narrow(1, span(-7, 10), span(-7, 10)), narrow(1, span(-7, 10), span(-7, 10)))
	for i, op := range others {
		name := fmt.Sprint("kind ", op.Kind)
		expectPlan(t, name, declaring(-7, 10, star(in, op)), api.Cert{Ranges: list(span(-7, 10), comes[i]), Plans: [][]api.Chan{nil}})
		expectPlan(t, name, declaring(-7, 10, star(in, op, small)), api.Cert{Ranges: list(span(-7, 10), comes[i], span(-7, 10)), Plans: [][]api.Chan{nil, mean}})
		expectPlan(t, name, declaring(-7, 10, star(in, small, op)), api.Cert{Ranges: list(span(-7, 10), span(-7, 10), comes[i]), Plans: [][]api.Chan{mean, nil}})
	}
	all := api.Cert{Ranges: append(list(span(-7, 10)), comes...), Plans: make([][]api.Chan, 4)}
	expectPlan(t, "all of them", declaring(-7, 10, star(in, others...)), all)
}

// P19.1, P19.2: the range of the tensor that an op reads counts, be it the one
// ahead, one further back or the input: not that of another.
func TestRangeOfTensorRead(t *testing.T) {
	sum := rows([]int32{4}, 100, -100)
	for a, p := range []api.Chan{
		narrow(2, span(-25500, 25500), span(4-25500, 4+25500)),
		narrow(2, span(-300, 300), span(4-300, 4+300)),
		narrow(2, span(-12700, 12700), span(4-2700, 4+2700)),
		narrow(2, span(-200, 200), span(4-100, 4+100)),
	} {
		m := star(of(1, 1, 2), between(0, 3), between(100, 127), between(-2, -1), over(sum, a))
		expectPlan(t, fmt.Sprint("tensor ", a), m, api.Cert{
			Ranges: list(span(-128, 127), span(0, 3), span(100, 127), span(-2, -1), clamped(p.Total)),
			Plans:  [][]api.Chan{nil, nil, nil, chans(p)},
		})
	}
	// Of these tensors the running sums over one alone are of 32 bits.
	hard := rows([]int32{math.MaxInt32 - 3}, 1, 0)
	for a, fits := range []bool{false, true, false, true} {
		m := star(of(1, 1, 2), between(0, 3), between(0, 4), between(-2, -1), over(hard, a))
		if _, ok := holdModel(t, fmt.Sprint("tensor ", a), m); ok != fits {
			t.Errorf("tensor %d: fits: %v; want %v", a, ok, fits)
		}
	}
}

// P19.1: the first op that has such a channel is told, and of it the first
// channel, wherever they are, and whatever comes behind.
func TestFirstOfSeveral(t *testing.T) {
	const good, bad = 7, math.MaxInt32
	op := func(biases ...int32) api.Op {
		return rows(biases, slices.Repeat([]int16{1, 1}, len(biases))...)
	}
	m := func(ops ...api.Op) api.Model { return star(of(1, 1, 2), ops...) }
	fine := op(good, good)
	for _, x := range []struct {
		m    api.Model
		want api.Fault
	}{
		{m(fine), api.Fault{}},
		{m(op(bad)), tooWideAt(1, 1)},
		{m(op(bad, good, good)), tooWideAt(1, 1)},
		{m(op(good, bad, good)), tooWideAt(1, 2)},
		{m(op(good, good, bad)), tooWideAt(1, 3)},
		{m(op(good, bad, bad)), tooWideAt(1, 2)},
		{m(op(bad, good, bad)), tooWideAt(1, 1)},
		{m(op(bad, bad, bad)), tooWideAt(1, 1)},
		{m(fine, op(bad)), tooWideAt(2, 1)},
		{m(fine, op(good, bad)), tooWideAt(2, 2)},
		{m(op(good, good, bad), op(bad)), tooWideAt(1, 3)},
		{m(fine, op(good, bad), op(bad)), tooWideAt(2, 2)},
		{m(fine, fine, fine, op(good, good, good, bad)), tooWideAt(4, 4)},
		{m(clamp(), op(bad)), tooWideAt(2, 1)},
		{m(clamp(), greatest(kernel(1, 1, 1, 1)), add(0, 0), rescale(), average(kernel(1, 1, 1, 1)), op(good, bad), clamp()), tooWideAt(6, 2)},
		{m(op(bad), clamp(), fine), tooWideAt(1, 1)},
	} {
		if _, ok := holdModel(t, "several", x.m); ok != (x.want == api.Fault{}) {
			t.Errorf("fits: %v; want %v", ok, x.want)
		}
		if x.want != (api.Fault{}) {
			expectFault(t, "several", x.m, x.want)
		}
	}
}

// P19.1: one channel alone of many, each in turn, of each kind that has biases.
func TestOneChannelAlone(t *testing.T) {
	in := of(3, 3, 5)
	ops := []api.Op{dense(in, 5), conv(in, 5, padded(kernel(2, 2, 1, 1), 1, 1, 0, 0)), depthwise(in, kernel(3, 2, 1, 1))}
	for number, op := range ops {
		for ch := range 5 {
			for _, bias := range []int32{math.MaxInt32, math.MinInt32} {
				m := star(in, slices.Clone(ops)...)
				m.Ops[number].Bias = slices.Clone(op.Bias)
				m.Ops[number].Bias[ch] = bias
				expectFault(t, "one channel", m, tooWideAt(number+1, ch+1))
			}
		}
	}
	holdModel(t, "none", star(in, ops...))
}

// P19.1: running sums at the ends of 32 bits, and one beyond them: the last one,
// the bias, one in the midst that comes back; behind another op, too.
func TestRunAtTheEnds(t *testing.T) {
	const most, least = math.MaxInt32, math.MinInt32
	for _, x := range []struct {
		bias    int32
		weights []int16
		s       api.Span
		fits    bool
	}{
		{most - 1, []int16{1}, span(1, 1), true},
		{most, []int16{1}, span(1, 1), false},
		{most, []int16{0}, span(1, 1), true},
		{most, []int16{-1}, span(0, 1), true},
		{most, []int16{1}, span(-1, 0), true},
		{most, []int16{1}, span(-1, 1), false},
		{least + 1, []int16{-1}, span(1, 1), true},
		{least, []int16{-1}, span(1, 1), false},
		{least, []int16{0}, span(1, 1), true},
		{least, []int16{1}, span(0, 1), true},
		{least, []int16{1}, span(-1, 0), false},
		{most, []int16{1, -1}, span(1, 1), false},
		{most - 1, []int16{1, -1}, span(1, 1), true},
		{most, []int16{-1, 1}, span(1, 1), true},
		{least, []int16{-1, 1}, span(1, 1), false},
		{least + 1, []int16{-1, 1}, span(1, 1), true},
		{most - 3, []int16{1, 2, 1, -4}, span(1, 1), false},
		{most - 4, []int16{1, 2, 1, -4}, span(1, 1), true},
		{least + 3, []int16{-1, -2, -1, 4}, span(1, 1), false},
		{least + 4, []int16{-1, -2, -1, 4}, span(1, 1), true},
		{most - 3*127*32767, []int16{32767, 32767, 32767, -1}, span(127, 127), true},
		{most - 3*127*32767 + 1, []int16{32767, 32767, 32767, -1}, span(127, 127), false},
		{least + 3*127*32767, []int16{-32767, -32767, -32767, 1}, span(127, 127), true},
		{least + 3*127*32767 - 1, []int16{-32767, -32767, -32767, 1}, span(127, 127), false},
	} {
		first := declaring(int(x.s.Lo), int(x.s.Hi), row(x.bias, x.weights...))
		behind := star(first.In, between(int(x.s.Lo), int(x.s.Hi)), over(first.Ops[0], 1))
		for op, m := range []api.Model{first, behind} {
			if x.fits {
				expectPlan(t, fmt.Sprint("at the ends ", x), m, secondPlan(m))
			} else {
				expectFault(t, fmt.Sprint("at the ends ", x), m, tooWideAt(op+1, 1))
			}
		}
	}
}

// P19.1: padding alone brings a running sum beyond 32 bits, or back.
func TestPaddingBeyond(t *testing.T) {
	in := of(1, 3, 1)
	for _, x := range []struct {
		left, right, pad int
		bias             int32
		fits             bool
	}{
		{0, 0, 9, math.MaxInt32 - 2, true},
		{1, 0, 2, math.MaxInt32 - 3, true},
		{1, 0, 3, math.MaxInt32 - 3, false},
		{0, 1, 3, math.MaxInt32 - 3, false},
		{0, 1, 2, math.MaxInt32 - 3, true},
		{0, 1, -3, math.MinInt32 + 3, true},
		{0, 1, -4, math.MinInt32 + 3, false},
	} {
		whole := conv(in, 1, padded(kernel(1, 2, 1, 1), 0, x.left, 0, x.right))
		deep := depthwise(in, whole.Win)
		for _, op := range []api.Op{whole, deep} {
			op.Weights, op.Bias, op.Pad = []int16{1, 1}, []int32{x.bias}, x.pad
			if _, ok := holdModel(t, "padding", declaring(0, 1, star(in, op))); ok != x.fits {
				t.Errorf("%v: fits: %v", x, ok)
			}
		}
	}
}

// P19.2: channels of both widths in one op, with depths of 1, of the length and
// between.
func TestWidthsAndDepths(t *testing.T) {
	op := rows([]int32{0, 1, 2, 3, 4},
		1, 2, 3, 4,
		100, 100, 100, 100,
		200, 200, 200, 200,
		300, 0, 0, 0,
		-200, 200, -200, -200)
	m := declaring(0, 127, star(of(1, 1, 4), op))
	expectPlan(t, "widths and depths", m, api.Cert{
		Ranges: list(span(0, 127), span(-128, 127)),
		Plans: [][]api.Chan{chans(
			narrow(4, span(0, 1270), span(0, 1270)),
			narrow(2, span(0, 25400), span(1, 50801)),
			narrow(1, span(0, 25400), span(2, 101602)),
			wide(4, span(3, 38103), span(3, 38103)),
			narrow(1, span(-25400, 25400), span(4-76200, 25404)),
		)},
	})
	holdModel(t, "mixed widths", mixedWidths())
}

// P19.2: an op whose range is narrow makes that of what reads it narrower: so
// registers bear more of it.
func TestNarrowRanges(t *testing.T) {
	sum := rows([]int32{0}, 300, 300, 300)
	for _, x := range []struct {
		lo, hi int
		p      api.Chan
	}{
		{-128, 127, wide(3, span(-115200, 114300), span(-115200, 114300))},
		{0, 109, narrow(1, span(0, 32700), span(0, 98100))},
		{0, 110, wide(3, span(0, 99000), span(0, 99000))},
		{0, 54, narrow(2, span(0, 32400), span(0, 48600))},
		{0, 36, narrow(3, span(0, 32400), span(0, 32400))},
		{-36, 36, narrow(3, span(-32400, 32400), span(-32400, 32400))},
		{5, 5, narrow(3, span(1500, 4500), span(4500, 4500))},
	} {
		m := star(of(1, 1, 3), between(x.lo, x.hi), over(sum, 1))
		read := span(int64(x.lo), int64(x.hi))
		expectPlan(t, fmt.Sprint("between ", read), m, api.Cert{
			Ranges: list(span(-128, 127), read, clamped(x.p.Total)),
			Plans:  [][]api.Chan{nil, chans(x.p)},
		})
	}
	// A model fits by a Clamp alone.
	hard := rows([]int32{0}, far()...)
	expectFault(t, "no clamp", star(of(1, 1, 512), hard), tooWideAt(1, 1))
	expectFault(t, "a wide clamp", star(of(1, 1, 512), between(-128, 127), over(hard, 1)), tooWideAt(2, 1))
	expectFault(t, "another op's clamp", star(of(1, 1, 512), between(-127, 127), hard), tooWideAt(2, 1))
	if _, ok := holdModel(t, "a narrow clamp", star(of(1, 1, 512), between(-127, 127), over(hard, 1))); !ok {
		t.Error("it doesn't fit behind a narrow clamp")
	}
}

// P19.1, P19.2: padding in a plan.
func TestPaddingInPlans(t *testing.T) {
	op := conv(of(1, 2, 1), 1, padded(kernel(1, 2, 1, 1), 0, 1, 0, 0))
	op.Weights, op.Bias, op.Pad, op.SA, op.Zero = []int16{4, 1}, []int32{0}, -3, api.Scale{Mult: 1}, 0
	expectPlan(t, "padding", declaring(0, 2, star(of(1, 2, 1), op)), api.Cert{
		Ranges: list(span(0, 2), span(-12, 10)),
		Plans:  [][]api.Chan{chans(narrow(2, span(-12, 10), span(-12, 10)))},
	})
	holdModel(t, "sides", sides())
	holdModel(t, "sides, steeper", steeper(sides(), 9))
}

// P19.1, P19.2: models of all kinds, against the second reading.
func TestSmallModels(t *testing.T) {
	for _, n := range smallModels() {
		if _, ok := holdModel(t, n.name, n.m); !ok {
			t.Errorf("%s: it doesn't fit", n.name)
		}
		for _, by := range []int16{2, -3, 7, 31} {
			holdModel(t, n.name+", steeper", steeper(n.m, by))
		}
		for _, s := range list(span(0, 0), span(-128, -128), span(100, 127), span(-5, 6)) {
			holdModel(t, n.name+", another range", declaring(int(s.Lo), int(s.Hi), n.m))
		}
	}
}

// P19.1, P19.2: models at the limits.
func TestGreatModels(t *testing.T) {
	for _, n := range greatModels() {
		holdModel(t, n.name, n.m)
	}
	last := chain(of(1, 1, 256), repeated(average(kernel(1, 1, 1, 1)))...)
	last.Ops[63] = over(depthwise(of(1, 1, 256), kernel(1, 1, 1, 1)), 62)
	last.Ops[63].Bias[255] = math.MinInt32
	expectFault(t, "the last channel of the last op", last, tooWideAt(64, 256))
}

// P19.1, P19.2: random models.
func TestRandom(t *testing.T) {
	r := rand.New(rand.NewSource(191))
	widths, later, unfit := map[int]int{}, 0, 0
	for range 3000 {
		m := anyModel(r, 6)
		c, ok := holdModel(t, "random", m)
		if !ok {
			unfit++
			if f := secondFits(m); f.Op > 1 && f.Chan > 1 {
				later++
			}
		}
		for _, plans := range c.Plans {
			for _, p := range plans {
				widths[p.Width]++
			}
		}
	}
	if unfit < 150 || later < 20 || widths[16] < 1000 || widths[32] < 1000 {
		t.Errorf("%d didn't fit, %d of them at a later op and channel; widths %v", unfit, later, widths)
	}
}

// Rule 3: disturbed models: what layer 8 refuses is told, and the rest is held
// to the second reading.
func TestDisturbed(t *testing.T) {
	r := rand.New(rand.NewSource(192))
	refused := 0
	for range 3000 {
		m := anyModel(r, 4)
		disturb(r, &m)
		if _, ok := holdModel(t, "disturbed", m); !ok {
			refused++
		}
	}
	if refused < 1000 || refused > 2800 {
		t.Errorf("%d were refused", refused)
	}
}

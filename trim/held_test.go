package trim_test

import (
	"math"
	"math/rand"
	"slices"
	"testing"

	"spillway/api"
	"spillway/cert"
	"spillway/model"
	"spillway/plain"
	"spillway/plan"
)

// eachWithItsOutputs are the small models, with each tensor as the output.
func eachWithItsOutputs() []named {
	var all []named
	for _, n := range smallModels() {
		for out := range len(n.m.Ops) + 1 {
			all = append(all, named{n.name, from(out, n.m)})
		}
	}
	return all
}

// greatWithOutputs are the great models, with some tensors as the output.
func greatWithOutputs() []named {
	var all []named
	for _, n := range greatModels() {
		for _, out := range []int{0, 1, len(n.m.Ops) / 2, len(n.m.Ops)} {
			all = append(all, named{n.name, from(out, n.m)})
		}
	}
	return all
}

// manyModels are the small ones, such that are steeper, and random ones.
func manyModels(r *rand.Rand, n int) []named {
	all := eachWithItsOutputs()
	for _, one := range eachWithItsOutputs() {
		all = append(all, named{one.name + ", steeper", steeper(one.m, 7)})
	}
	for range n {
		all = append(all, named{"random", anyModel(r, 8)}, named{"a tangle", tangle(r, 1+r.Intn(12), 1+r.Intn(5))})
	}
	return all
}

// workOf is the work of one op, as layer 8 counts it where the op is alone.
func workOf(m api.Model, number int) int {
	shapes, _ := model.Shapes(m)
	op := m.Ops[number-1]
	in := shapes[op.A]
	op.A, op.B = 0, 0
	work, _ := model.Work(star(in, op))
	return work
}

// P24.3: what is left is well-formed, all of it is needed, and it stays as it is.
func TestNothingMoreFallsAway(t *testing.T) {
	r := rand.New(rand.NewSource(243))
	for _, n := range append(manyModels(r, 2500), greatWithOutputs()...) {
		less := trimmed(t, n.name, n.m)
		if f := model.Check(less); f != (api.Fault{}) {
			t.Fatalf("%s: %v\n%+v", n.name, f, less)
		}
		expectLive(t, n.name, less, slices.Repeat([]bool{true}, len(less.Ops)+1)...)
		expectTrim(t, n.name, less, less)
	}
}

// P24.3: the work of what is left is that of the ops that are needed; the shapes
// are theirs.
func TestWorkIsNoMore(t *testing.T) {
	r := rand.New(rand.NewSource(244))
	lesser := 0
	for _, n := range append(manyModels(r, 2500), greatWithOutputs()...) {
		less := trimmed(t, n.name, n.m)
		live := liveOf(t, n.name, n.m)
		shapes, _ := model.Shapes(n.m)
		var want []api.Shape
		work := 0
		for _, tensor := range live {
			want = append(want, shapes[tensor])
			if tensor > 0 {
				work += workOf(n.m, tensor)
			}
		}
		whole, _ := model.Work(n.m)
		got, f := model.Work(less)
		if f != (api.Fault{}) || got != work || got > whole {
			t.Errorf("%s: the work is %d %v; want %d; of the whole it is %d", n.name, got, f, work, whole)
		}
		if got < whole {
			lesser++
		}
		if left, f := model.Shapes(less); f != (api.Fault{}) || !slices.Equal(left, want) {
			t.Errorf("%s: the shapes are %v %v; want %v", n.name, left, f, want)
		}
	}
	if lesser < 1000 {
		t.Errorf("%d of lesser work only", lesser)
	}
}

func placesOf(s api.Shape) int { return s.H * s.W * s.C }

// holdEval: of both models Eval answers the same.
func holdEval(t *testing.T, name string, m, less api.Model, x []int8) api.Fault {
	t.Helper()
	want, f := plain.Eval(m, x)
	if got, g := plain.Eval(less, x); g != f || !slices.Equal(got, want) {
		t.Errorf("%s: %v: %v %v; of the whole model %v %v", name, x, got, g, want, f)
	}
	return f
}

// holdTensors: each tensor that is left is what it was.
func holdTensors(t *testing.T, name string, m, less api.Model, x []int8) {
	t.Helper()
	whole, f := plain.Tensors(m, x)
	left, g := plain.Tensors(less, x)
	live := liveOf(t, name, m)
	if f != (api.Fault{}) || g != (api.Fault{}) || len(left) != len(live) {
		t.Fatalf("%s: %d tensors %v; %d %v", name, len(whole), f, len(left), g)
	}
	for i, tensor := range live {
		if !slices.Equal(left[i], whole[tensor]) {
			t.Errorf("%s: tensor %d is %v; it was tensor %d, %v", name, i, left[i], tensor, whole[tensor])
		}
	}
}

// numbersOf are numbers of the declared range, its ends among them.
func numbersOf(r *rand.Rand, m api.Model) []int8 {
	list := make([]int8, placesOf(m.In))
	for i := range list {
		list[i] = int8(anyOf(r, m.Lo, m.Hi, m.Lo+r.Intn(m.Hi-m.Lo+1)))
	}
	return list
}

// wrongInputs are such that no model of that input takes: of another length, or
// with a number beyond the declared range.
func wrongInputs(r *rand.Rand, m api.Model) [][]int8 {
	x := numbersOf(r, m)
	all := [][]int8{nil, {}, x[1:], append(slices.Clone(x), x[0]), slices.Repeat(x, 2)}
	for _, beyond := range []int{m.Lo - 1, m.Hi + 1, -128, 127} {
		if -128 <= beyond && beyond <= 127 && (beyond < m.Lo || beyond > m.Hi) {
			other := slices.Clone(x)
			other[r.Intn(len(x))] = int8(beyond)
			all = append(all, other)
		}
	}
	if len(x) == 1 {
		all = all[1:]
	}
	return all
}

// P24.4: Eval over random inputs, and over wrong ones.
func TestSameAnswers(t *testing.T) {
	r := rand.New(rand.NewSource(245))
	told := map[api.Errno]int{}
	for _, n := range manyModels(r, 1200) {
		less := trimmed(t, n.name, n.m)
		for range 3 {
			x := numbersOf(r, n.m)
			if f := holdEval(t, n.name, n.m, less, x); f != (api.Fault{}) {
				t.Errorf("%s: %v: %v", n.name, x, f)
			}
			holdTensors(t, n.name, n.m, less, x)
		}
		for _, x := range wrongInputs(r, n.m) {
			told[holdEval(t, n.name, n.m, less, x).Err]++
		}
	}
	if told[api.OK] != 0 || len(told) == 0 {
		t.Errorf("what wrong inputs were answered: %v", told)
	}
}

// everyList goes through all lists of so many numbers of the span.
func everyList(n int, s api.Span, do func([]int8)) {
	list := slices.Repeat([]int8{int8(s.Lo)}, n)
	for {
		do(list)
		i := 0
		for i < n && int64(list[i]) == s.Hi {
			list[i] = int8(s.Lo)
			i++
		}
		if i == n {
			return
		}
		list[i]++
	}
}

// P24.4: Eval over all inputs of small models, and over those with numbers that
// are one beyond the declared range.
func TestSameAnswersToAllInputs(t *testing.T) {
	r := rand.New(rand.NewSource(246))
	for count := range 4 {
		everyGraph(count, func(nodes []node) {
			for out := range count + 1 {
				m := graph(out, nodes...)
				less := trimmed(t, "a graph", m)
				everyList(1, api.Span{Lo: -128, Hi: 127}, func(x []int8) { holdEval(t, "a graph", m, less, x) })
			}
		})
	}
	right, wrong := 0, 0
	for range 400 {
		m := anyModel(r, 6)
		if placesOf(m.In) > 5 {
			continue
		}
		m.Hi = min(m.Hi, m.Lo+2)
		less := trimmed(t, "small", m)
		everyList(placesOf(m.In), api.Span{Lo: int64(max(-128, m.Lo-1)), Hi: int64(min(127, m.Hi+1))}, func(x []int8) {
			if f := holdEval(t, "small", m, less, x); f == (api.Fault{}) {
				right++
			} else {
				wrong++
			}
		})
	}
	if right < 1000 || wrong < 1000 {
		t.Errorf("%d inputs, %d wrong ones", right, wrong)
	}
}

// onlyLive is the certificate of a model for what is left of it.
func onlyLive(live []int, c api.Cert) api.Cert {
	var left api.Cert
	for _, tensor := range live {
		left.Ranges = append(left.Ranges, c.Ranges[tensor])
		if tensor > 0 {
			left.Plans = append(left.Plans, c.Plans[tensor-1])
		}
	}
	return left
}

// P24.4: if the model fits, so does what is left, and what is planned for it is
// what was planned, the range of the output too. If it doesn't fit because of an
// op that is left, neither does that, at the op's new number.
func TestPlansOfBoth(t *testing.T) {
	r := rand.New(rand.NewSource(247))
	fit, unfit, fitsNow := 0, 0, 0
	for _, n := range manyModels(r, 1200) {
		less := trimmed(t, n.name, n.m)
		live := liveOf(t, n.name, n.m)
		whole, f := plan.Plan(n.m)
		left, g := plan.Plan(less)
		if g != plan.Fits(less) {
			t.Errorf("%s: Plan: %v, Fits: %v", n.name, g, plan.Fits(less))
		}
		if f == (api.Fault{}) {
			fit++
			if g != f || !cert.Same(left, onlyLive(live, whole)) {
				t.Errorf("%s: %+v %v is planned, and for the whole model %+v", n.name, left, g, whole)
			}
			if left.Ranges[less.Out] != whole.Ranges[n.m.Out] {
				t.Errorf("%s: the output's range is %v, and was %v", n.name, left.Ranges[less.Out], whole.Ranges[n.m.Out])
			}
			continue
		}
		if at := slices.Index(live, f.Op); at > 0 {
			unfit++
			if want := (api.Fault{Err: f.Err, Op: at, Chan: f.Chan}); g != want {
				t.Errorf("%s: %v; want %v", n.name, g, want)
			}
		} else if g == (api.Fault{}) {
			fitsNow++
		}
	}
	if fit < 1000 || unfit < 20 || fitsNow < 20 {
		t.Errorf("%d fit, %d don't, and %d do now", fit, unfit, fitsNow)
	}
}

// P24.4: a model that doesn't fit for what its output doesn't need alone.
func TestWhatIsTooWideFallsAway(t *testing.T) {
	hard := row(math.MaxInt32, 1, 1).Ops[0]
	m := star(of(1, 1, 2), hard, clamp(), hard)
	for out, want := range []api.Fault{{}, {Err: api.ErrWide, Op: 1, Chan: 1}, {}, {Err: api.ErrWide, Op: 1, Chan: 1}} {
		if f := plan.Fits(from(out, m)); f != (api.Fault{Err: api.ErrWide, Op: 1, Chan: 1}) {
			t.Errorf("Out %d: the whole model: %v", out, f)
		}
		if f := plan.Fits(trimmed(t, "too wide", from(out, m))); f != want {
			t.Errorf("Out %d: %v; want %v", out, f, want)
		}
	}
}

package depth_test

import (
	"math"
	"math/rand"
	"slices"
	"testing"

	"spillway/api"
	"spillway/bound"
	"spillway/check"
	"spillway/depth"
	"spillway/model"
	"spillway/terms"
)

// manyModels are the small ones, such that are steeper, and random ones.
func manyModels(r *rand.Rand, n int) []named {
	all := smallModels()
	for _, one := range smallModels() {
		all = append(all, named{one.name + ", steeper", steeper(one.m, 4)})
	}
	for range n {
		all = append(all, named{"random", anyModel(r, 4)})
	}
	return all
}

// P18.1, P18.2, P18.4: Safe against layer 13's Part, with every depth; Most
// against Safe; depth 1 against layer 13's Product.
func TestSafeAndMost(t *testing.T) {
	r := rand.New(rand.NewSource(188))
	safeOnes, none := 0, 0
	for _, n := range manyModels(r, 500) {
		for _, at := range some(places(n.m), 6) {
			s := anySpan(r)
			length, _ := terms.Length(n.m, at.op)
			most := 0
			for _, k := range upTo(length) {
				part, _ := bound.Part(n.m, at.op, at.ch, s, k)
				expectSafe(t, n.name, n.m, at.op, at.ch, s, k, both(part, isInt16), api.OK)
				if safe, _ := depth.Safe(n.m, at.op, at.ch, s, k); safe {
					most = k
					safeOnes++
				}
			}
			expectMost(t, n.name, n.m, at.op, at.ch, s, most, api.OK)
			product, _ := bound.Product(n.m, at.op, at.ch, s)
			expectSafe(t, n.name+", depth 1", n.m, at.op, at.ch, s, 1, both(product, isInt16), api.OK)
			if most == 0 {
				none++
			}
			if both(product, isInt16) != (most >= 1) {
				t.Errorf("%s: the products are %v, and Most is %d", n.name, product, most)
			}
		}
	}
	if safeOnes < 1000 || none < 100 {
		t.Errorf("%d depths were safe, %d channels had none", safeOnes, none)
	}
}

// P18.3: Choose's fields are what layer 13 answers.
func TestChooseAgainstBound(t *testing.T) {
	r := rand.New(rand.NewSource(189))
	counts := map[int]int{}
	for _, n := range manyModels(r, 800) {
		for _, at := range some(places(n.m), 6) {
			s := anySpan(r)
			run, _ := bound.Run(n.m, at.op, at.ch, s)
			total, _ := bound.Total(n.m, at.op, at.ch, s)
			length, _ := terms.Length(n.m, at.op)
			most, _ := depth.Most(n.m, at.op, at.ch, s)
			part, _ := bound.Part(n.m, at.op, at.ch, s, most)
			want, e := api.Chan{Width: 16, Depth: most, Part: part, Total: total}, api.OK
			if most == 0 {
				want = api.Chan{Width: 32, Depth: length, Part: run, Total: total}
			}
			if !both(run, isInt32) {
				want, e = api.Chan{}, api.ErrWide
			}
			counts[want.Width]++
			expectChoose(t, n.name, n.m, at.op, at.ch, s, want, e)
		}
	}
	if counts[16] < 500 || counts[32] < 200 || counts[0] < 20 {
		t.Errorf("plans by width: %v", counts)
	}
}

// register is what numbers of that width lie in.
func register(width int) api.Span {
	if width == 16 {
		return span(math.MinInt16, math.MaxInt16)
	}
	return span(math.MinInt32, math.MaxInt32)
}

// rivals are plans of a channel: of both widths, with every depth there is and
// with such as are none, each claiming just what it must, and all that its
// registers hold.
func rivals(m api.Model, at place, s api.Span, length int) []api.Chan {
	var all []api.Chan
	run, _ := bound.Run(m, at.op, at.ch, s)
	total, _ := bound.Total(m, at.op, at.ch, s)
	for k := 0; k <= length+1; k++ {
		part, _ := bound.Part(m, at.op, at.ch, s, k)
		all = append(all, narrow(k, part, total), narrow(k, register(16), register(32)), wide(k, run, total), wide(k, register(32), register(32)))
	}
	return append(all, api.Chan{}, api.Chan{Width: 8, Depth: 1, Part: register(16), Total: register(32)})
}

// holdChosen holds what Choose answers to layer 17, and against every other plan
// that holds.
func holdChosen(t *testing.T, name string, m api.Model, at place, s api.Span) (api.Chan, int) {
	t.Helper()
	chosen, e := depth.Choose(m, at.op, at.ch, s)
	if e == api.OK {
		if got := check.Chan(m, at.op, at.ch, s, chosen); got != api.OK {
			t.Errorf("%s: %v over %v: %v doesn't hold: %d", name, at, s, chosen, int(got))
		}
	}
	length, _ := terms.Length(m, at.op)
	lesser := 0
	for _, other := range rivals(m, at, s, length) {
		if check.Chan(m, at.op, at.ch, s, other) != api.OK {
			continue
		}
		if e != api.OK {
			t.Errorf("%s: %v over %v: nothing is chosen, and %v holds", name, at, s, other)
		}
		if other.Width == 16 && (chosen.Width != 16 || chosen.Depth < other.Depth) {
			t.Errorf("%s: %v over %v: %v is chosen, and %v holds", name, at, s, chosen, other)
		}
		if other.Width == chosen.Width && other.Depth < chosen.Depth {
			lesser++
		}
	}
	return chosen, lesser
}

// P18.5: ops of every kind that reduces, and rows whose depths have gaps.
func TestChosenIsBest(t *testing.T) {
	r := rand.New(rand.NewSource(190))
	counts, lesser := map[int]int{}, 0
	hold := func(name string, m api.Model, at place, s api.Span) {
		plan, n := holdChosen(t, name, m, at, s)
		counts[plan.Width]++
		lesser += n
	}
	for _, n := range manyModels(r, 300) {
		for _, at := range some(places(n.m), 4) {
			hold(n.name, n.m, at, anySpan(r))
		}
	}
	for _, x := range rowsByHand() {
		hold("by hand", row(7, x.weights...), place{1, 1}, x.s)
	}
	for _, bias := range []int32{math.MaxInt32, math.MinInt32, math.MaxInt32 - 5, math.MinInt32 + 5} {
		hold("a far bias", row(bias, 3, -3, 5), place{1, 1}, span(-1, 1))
		hold("a far bias", row(bias, 300, -300, 5), place{1, 1}, span(127, 127))
	}
	if counts[16] < 300 || counts[32] < 100 || counts[0] < 10 || lesser < 300 {
		t.Errorf("plans by width: %v, %d lesser ones", counts, lesser)
	}
}

// P18.6: over a narrower span Most is no less, and where something is chosen
// over a span, so it is over a narrower one, with registers no wider.
func TestNarrowerSpans(t *testing.T) {
	r := rand.New(rand.NewSource(191))
	greater := 0
	for _, n := range manyModels(r, 600) {
		for _, at := range some(places(n.m), 5) {
			s := anySpan(r)
			most, _ := depth.Most(n.m, at.op, at.ch, s)
			plan, e := depth.Choose(n.m, at.op, at.ch, s)
			for _, within := range narrower(r, s) {
				got, _ := depth.Most(n.m, at.op, at.ch, within)
				if got < most {
					t.Errorf("%s: %v: Most is %d over %v and %d over %v", n.name, at, most, s, got, within)
				}
				if got > most {
					greater++
				}
				other, err := depth.Choose(n.m, at.op, at.ch, within)
				if e == api.OK && (err != api.OK || other.Width > plan.Width || other.Width == plan.Width && other.Depth < plan.Depth) {
					t.Errorf("%s: %v: %v is chosen over %v, and %v over %v", n.name, at, plan, s, other, within)
				}
			}
		}
	}
	if greater < 200 {
		t.Errorf("Most was greater over a narrower span %d times only", greater)
	}
}

// everyList goes through all lists of so many numbers of the span.
func everyList(n int, s api.Span, do func([]int8)) {
	list := slices.Repeat([]int8{int8(s.Lo)}, n)
	for {
		do(list)
		i := 0
		for i < n && int64(list[i]) == s.Hi {
			list[i] = int8(s.Lo)
			i++
		}
		if i == n {
			return
		}
		list[i]++
	}
}

// products are those of a sum, one by one, over these numbers.
func products(row []api.Term, pad int, a []int8) []int64 {
	all := make([]int64, len(row))
	for i, term := range row {
		number := pad
		if term.At >= 0 {
			number = int(a[term.At])
		}
		all[i] = int64(term.W) * int64(number)
	}
	return all
}

// bears: does a register of 16 bits that begins anew every so many products
// come to what whole numbers do, each product too?
func bears(products []int64, k int) bool {
	for block := range slices.Chunk(products, k) {
		var register int16
		var whole int64
		for _, p := range block {
			register, whole = register+int16(p), whole+p
			if int64(register) != whole || int64(int16(p)) != p {
				return false
			}
		}
	}
	return true
}

// P18.1, P18.2: over all numbers that a small op can read: just the depths are
// safe with which no register of 16 bits ever runs over.
func TestOverAllNumbers(t *testing.T) {
	r := rand.New(rand.NewSource(192))
	var kinds [9]int
	safe, unsafe := 0, 0
	for range 4000 {
		in := anyOf(r, of(1, 1, 1), of(1, 2, 1), of(2, 1, 1), of(1, 1, 3), of(1, 3, 1), of(2, 2, 1), of(1, 2, 2), of(1, 1, 5))
		m := star(in, anyOp(r, []api.Shape{in}))
		if model.Check(m) != (api.Fault{}) || !model.Reduces(m.Ops[0].Kind) {
			continue
		}
		m = steeper(m, anyOf[int16](r, 1, 1, 3))
		lo := anyOf(r, -128, -3, -1, 0, 1, 100, 125, int64(anyValue(r)))
		s := span(lo, min(127, lo+int64(r.Intn(3))))
		ch := 1 + r.Intn(secondChannels(m, 1))
		length, _ := terms.Length(m, 1)
		positions, _ := terms.Positions(m, 1)
		borne := slices.Repeat([]bool{true}, length+1)
		for at := range positions {
			row, _, _ := terms.Of(m, 1, ch, at)
			everyList(in.H*in.W*in.C, s, func(a []int8) {
				all := products(row, m.Ops[0].Pad, a)
				for k := 1; k <= length; k++ {
					borne[k] = borne[k] && bears(all, k)
				}
			})
		}
		kinds[m.Ops[0].Kind]++
		most := 0
		for k := 1; k <= length; k++ {
			expectSafe(t, "all numbers", m, 1, ch, s, k, borne[k], api.OK)
			if borne[k] {
				most = k
				safe++
			} else {
				unsafe++
			}
		}
		expectMost(t, "all numbers", m, 1, ch, s, most, api.OK)
	}
	for kind := api.Dense; kind <= api.Average; kind++ {
		if kinds[kind] < 100 {
			t.Errorf("kind %d: only %d ops", kind, kinds[kind])
		}
	}
	if safe < 1000 || unsafe < 1000 {
		t.Errorf("%d safe depths, %d others", safe, unsafe)
	}
}

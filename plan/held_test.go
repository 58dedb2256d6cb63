package plan_test

import (
	"math/rand"
	"slices"
	"testing"

	"spillway/api"
	"spillway/bound"
	"spillway/cert"
	"spillway/check"
	"spillway/depth"
	"spillway/flow"
	"spillway/model"
	"spillway/plain"
	"spillway/plan"
	"spillway/terms"
)

// manyModels are the small ones, such that are steeper, and random ones.
func manyModels(r *rand.Rand, n int) []named {
	all := smallModels()
	for _, one := range smallModels() {
		all = append(all, named{one.name + ", steeper", steeper(one.m, 9)})
	}
	for range n {
		all = append(all, named{"random", anyModel(r, 5)})
	}
	return all
}

// firstTooWide asks layer 13 over what layer 14 answers, op by op and channel by
// channel.
func firstTooWide(m api.Model) api.Fault {
	ranges, _ := flow.Spread(m)
	for i, op := range m.Ops {
		channels, _ := terms.Channels(m, i+1)
		for ch := 1; ch <= channels; ch++ {
			if run, _ := bound.Run(m, i+1, ch, ranges[op.A]); !both(run, isInt32) {
				return tooWideAt(i+1, ch)
			}
		}
	}
	return api.Fault{}
}

// P19.1: Fits against layer 13's Run over layer 14's Spread.
func TestFitsAgainstBound(t *testing.T) {
	r := rand.New(rand.NewSource(193))
	fit, unfit := 0, 0
	for _, n := range manyModels(r, 1500) {
		want := firstTooWide(n.m)
		if got := plan.Fits(n.m); got != want {
			t.Errorf("%s: %v; want %v", n.name, got, want)
		}
		if want == (api.Fault{}) {
			fit++
		} else {
			unfit++
			expectFault(t, n.name, n.m, want)
		}
	}
	if fit < 500 || unfit < 50 {
		t.Errorf("%d fit, %d don't", fit, unfit)
	}
}

// P19.2: Plan against layer 14's Spread and layer 18's Choose over it, and
// against Fits.
func TestPlanAgainstChoose(t *testing.T) {
	r := rand.New(rand.NewSource(194))
	for _, n := range manyModels(r, 1500) {
		c, f := plan.Plan(n.m)
		if fits := plan.Fits(n.m); f != fits {
			t.Errorf("%s: Plan: %v; Fits: %v", n.name, f, fits)
		}
		if f != (api.Fault{}) {
			continue
		}
		ranges, _ := flow.Spread(n.m)
		if !slices.Equal(c.Ranges, ranges) || len(c.Plans) != len(n.m.Ops) {
			t.Errorf("%s: Ranges %v; Spread %v; %d lists", n.name, c.Ranges, ranges, len(c.Plans))
		}
		for i, plans := range c.Plans {
			channels, _ := terms.Channels(n.m, i+1)
			if len(plans) != channels {
				t.Fatalf("%s: op %d: %d plans; want %d", n.name, i+1, len(plans), channels)
			}
			for k, p := range plans {
				if want, _ := depth.Choose(n.m, i+1, k+1, ranges[n.m.Ops[i].A]); p != want {
					t.Errorf("%s: op %d, channel %d: %v; want %v", n.name, i+1, k+1, p, want)
				}
			}
		}
	}
}

// P19.3, P3: what is planned has the model's form, and holds; of a model that
// doesn't fit nothing holds, whatever it claims.
func TestWhatIsPlannedHolds(t *testing.T) {
	r := rand.New(rand.NewSource(195))
	held, refused := 0, 0
	for _, n := range manyModels(r, 1500) {
		c, f := plan.Plan(n.m)
		if f == (api.Fault{}) {
			held++
			if got := cert.Form(n.m, c); got != (api.Fault{}) {
				t.Errorf("%s: Form: %v", n.name, got)
			}
			if got := check.Check(n.m, c); got != (api.Fault{}) {
				t.Errorf("%s: Check: %v", n.name, got)
			}
			continue
		}
		for range 6 {
			other, ok := anyHolding(r, n.m)
			if got := check.Check(n.m, other); ok || got == (api.Fault{}) {
				t.Errorf("%s: %v, and %v holds", n.name, f, other)
			}
			refused++
		}
	}
	if held < 500 || refused < 300 {
		t.Errorf("%d held, %d refused", held, refused)
	}
}

// shorter are what is left of a span without its first or its last number; of a
// span of one number nothing is.
func shorter(s api.Span) []api.Span { return list(span(s.Lo+1, s.Hi), span(s.Lo, s.Hi-1)) }

// refusal is the error of a claim that was made shorter.
func refusal(s api.Span, e api.Errno) api.Errno {
	if s.Lo > s.Hi {
		return api.ErrSpan
	}
	return e
}

// P19.4, P6: each claim, made narrower by one, is refused: each span at either
// end, each register, and each depth, made greater, whatever goes with it.
func TestEveryClaimIsNeeded(t *testing.T) {
	r := rand.New(rand.NewSource(196))
	var spans, widths, depths int
	for _, n := range manyModels(r, 250) {
		good, f := plan.Plan(n.m)
		if f != (api.Fault{}) {
			continue
		}
		expect := func(want api.Fault, do func(c *api.Cert)) {
			t.Helper()
			if got := check.Check(n.m, turned(good, do)); got != want {
				t.Errorf("%s: %v; want %v", n.name, got, want)
			}
		}
		for tensor, s := range good.Ranges {
			for _, less := range shorter(s) {
				spans++
				expect(api.Fault{Err: refusal(less, api.ErrClaim), Op: tensor}, func(c *api.Cert) { c.Ranges[tensor] = less })
			}
		}
		for _, at := range some(places(n.m), 8) {
			p := *at.of(good)
			for _, less := range shorter(p.Part) {
				expect(at.fault(refusal(less, api.ErrPart)), func(c *api.Cert) { at.of(*c).Part = less })
			}
			for _, less := range shorter(p.Total) {
				expect(at.fault(refusal(less, api.ErrTotal)), func(c *api.Cert) { at.of(*c).Total = less })
			}
			length, _ := terms.Length(n.m, at.op)
			for k := 1; k <= length; k++ {
				if p.Width == 16 && k <= p.Depth {
					continue
				}
				if p.Width == 16 {
					depths++
				} else {
					widths++
				}
				expect(at.fault(api.ErrPart), func(c *api.Cert) { *at.of(*c) = narrow(k, register(16), p.Total) })
			}
		}
	}
	if spans < 500 || widths < 500 || depths < 500 {
		t.Errorf("%d spans, %d narrower registers, %d greater depths", spans, widths, depths)
	}
}

// holdAgainst holds what is planned against another certificate that holds.
func holdAgainst(t *testing.T, name string, m api.Model, best, other api.Cert) {
	t.Helper()
	for tensor, s := range best.Ranges {
		if !holds(other.Ranges[tensor], s) {
			t.Errorf("%s: tensor %d: %v is planned, and %v holds", name, tensor, s, other.Ranges[tensor])
		}
	}
	for _, at := range places(m) {
		p, o := *at.of(best), *at.of(other)
		if !holds(o.Total, p.Total) {
			t.Errorf("%s: %v: the Total %v is planned, and %v holds", name, at, p.Total, o.Total)
		}
		if o.Width == 16 && (p.Width != 16 || p.Depth < o.Depth) {
			t.Errorf("%s: %v: %v is planned, and %v holds", name, at, p, o)
		}
	}
	a, _ := cert.Cost(m, best)
	b, _ := cert.Cost(m, other)
	if a.Muls32 > b.Muls32 || a.Adds32 > b.Adds32 {
		t.Errorf("%s: the cost is %+v, and another's %+v", name, a, b)
	}
}

// P19.4, P6: against certificates with wider ranges, wider claims, wider
// registers and lesser depths that hold.
func TestNoOtherIsBetter(t *testing.T) {
	r := rand.New(rand.NewSource(197))
	others, costlier := 0, 0
	for _, n := range manyModels(r, 1000) {
		for range 5 {
			other, _ := anyHolding(r, n.m)
			if check.Check(n.m, other) != (api.Fault{}) {
				continue
			}
			others++
			best := planned(t, n.name, n.m)
			holdAgainst(t, n.name, n.m, best, other)
			a, _ := cert.Cost(n.m, best)
			if b, _ := cert.Cost(n.m, other); a != b {
				costlier++
			}
		}
	}
	if others < 3000 || costlier < 1000 {
		t.Errorf("%d others, %d of them cost more", others, costlier)
	}
}

// turnPlan sets one of a plan's fields to another number.
func turnPlan(r *rand.Rand, p *api.Chan) {
	switch r.Intn(5) {
	case 0:
		p.Width = anyOf(r, 16, 32, 8)
	case 1:
		p.Depth += anyOf(r, -2, -1, 1, 2)
	case 2:
		p.Width, p.Depth, p.Part = 16, 1+r.Intn(max(1, p.Depth)), register(16)
	case 3:
		p.Part = anyOf(r, register(16), register(32), span(p.Part.Lo-1, p.Part.Hi), span(p.Part.Lo+1, p.Part.Hi))
	case 4:
		p.Total = anyOf(r, register(32), span(p.Total.Lo, p.Total.Hi+1), span(p.Total.Lo, p.Total.Hi-1))
	}
}

// P19.4: against planned certificates that were turned at random, as far as
// layer 17 takes them.
func TestTurnedOnesAreNoBetter(t *testing.T) {
	r := rand.New(rand.NewSource(198))
	taken := 0
	for _, n := range manyModels(r, 1200) {
		best, f := plan.Plan(n.m)
		all := places(n.m)
		if f != (api.Fault{}) || len(all) == 0 {
			continue
		}
		for range 8 {
			other := turned(best, func(c *api.Cert) {
				for range 1 + r.Intn(3) {
					turnPlan(r, anyOf(r, all...).of(*c))
				}
				if r.Intn(3) == 0 {
					s := &c.Ranges[r.Intn(len(c.Ranges))]
					*s = anyOf(r, wider(r, *s), span(s.Lo+1, s.Hi), span(s.Lo, s.Hi-1))
				}
			})
			if check.Check(n.m, other) == (api.Fault{}) {
				taken++
				holdAgainst(t, n.name, n.m, best, other)
			}
		}
	}
	if taken < 1000 {
		t.Errorf("only %d were taken", taken)
	}
}

// P19.5: with a declared range within its own a model that fits fits, and each
// range lies within the one that it was; one that doesn't may.
func TestNarrowerDeclaredRanges(t *testing.T) {
	r := rand.New(rand.NewSource(199))
	less, fitsNow := 0, 0
	for _, n := range manyModels(r, 1000) {
		was, f := plan.Plan(n.m)
		for _, s := range narrower(r, span(int64(n.m.Lo), int64(n.m.Hi))) {
			now, g := plan.Plan(declaring(int(s.Lo), int(s.Hi), n.m))
			if f != (api.Fault{}) {
				if g == (api.Fault{}) {
					fitsNow++
				}
				continue
			}
			if g != (api.Fault{}) {
				t.Errorf("%s: it fits, and over %v it has the fault %v", n.name, s, g)
				continue
			}
			for tensor, wide := range was.Ranges {
				if !holds(wide, now.Ranges[tensor]) {
					t.Errorf("%s: tensor %d: %v, and over %v it is %v", n.name, tensor, wide, s, now.Ranges[tensor])
				}
			}
			for _, at := range places(n.m) {
				p, q := *at.of(was), *at.of(now)
				if !holds(p.Total, q.Total) || q.Width > p.Width || q.Width == p.Width && q.Depth < p.Depth {
					t.Errorf("%s: %v: %v, and over %v it is %v", n.name, at, p, s, q)
				}
				if q != p {
					less++
				}
			}
		}
	}
	if less < 1000 || fitsNow < 10 {
		t.Errorf("%d plans changed, %d models fit now", less, fitsNow)
	}
}

// products are those of a sum, one by one, over these numbers.
func products(row []api.Term, pad int, a []int8) []int64 {
	all := make([]int64, len(row))
	for i, term := range row {
		number := pad
		if term.At >= 0 {
			number = int(a[term.At])
		}
		all[i] = int64(term.W) * int64(number)
	}
	return all
}

// shown is what the sums of a channel came to over the numbers that it was
// shown: the sums, the single products, and, with each depth, what blocks came
// to.
type shown struct {
	total, product gathered
	blocks         []gathered
}

func (s *shown) take(row []int64, bias int64) {
	sum := bias
	for i, p := range row {
		sum += p
		s.product.take(p)
		for k := range s.blocks {
			var inBlock int64
			for _, before := range row[i/(k+1)*(k+1) : i+1] {
				inBlock += before
			}
			s.blocks[k].take(inBlock)
		}
	}
	s.total.take(sum)
}

// everyList goes through all lists of so many numbers of the span.
func everyList(n int, s api.Span, do func([]int8)) {
	list := slices.Repeat([]int8{int8(s.Lo)}, n)
	for {
		do(list)
		i := 0
		for i < n && int64(list[i]) == s.Hi {
			list[i] = int8(s.Lo)
			i++
		}
		if i == n {
			return
		}
		list[i]++
	}
}

// showAll shows a channel of the first op all inputs that the model has.
func showAll(m api.Model, ch, length int) shown {
	s := shown{none(), none(), slices.Repeat([]gathered{none()}, length)}
	positions, _ := terms.Positions(m, 1)
	for at := range positions {
		row, bias, _ := terms.Of(m, 1, ch, at)
		everyList(m.In.H*m.In.W*m.In.C, span(int64(m.Lo), int64(m.Hi)), func(x []int8) {
			s.take(products(row, m.Ops[0].Pad, x), bias)
		})
	}
	return s
}

// P5: over all inputs of small models: each Total is reached at both ends; where
// a channel is 32 wide, some product isn't int16; where it is 16 wide with a
// depth below the length, some block of one term more leaves int16.
func TestTight(t *testing.T) {
	r := rand.New(rand.NewSource(200))
	var kinds [9]int
	wides, lessers := 0, 0
	for range 3000 {
		in := anyOf(r, of(1, 1, 1), of(1, 2, 1), of(2, 1, 1), of(1, 1, 3), of(1, 3, 1), of(2, 2, 1), of(1, 2, 2), of(1, 1, 5))
		lo := anyOf(r, -128, -3, -1, 0, 1, 100, 125, anyValue(r))
		m := declaring(lo, min(127, lo+r.Intn(3)), star(in, anyOp(r, []api.Shape{in})))
		if model.Check(m) != (api.Fault{}) || !model.Reduces(m.Ops[0].Kind) || plan.Fits(m) != (api.Fault{}) {
			continue
		}
		kinds[m.Ops[0].Kind]++
		c := planned(t, "small", m)
		length, _ := terms.Length(m, 1)
		for i, p := range c.Plans[0] {
			found := showAll(m, i+1, length)
			if api.Span(found.total) != p.Total {
				t.Errorf("the Total %v is planned, and %v is reached", p.Total, found.total)
			}
			if p.Width == 32 {
				wides++
				if both(api.Span(found.product), isInt16) {
					t.Errorf("%v is planned, and all products lie in %v", p, found.product)
				}
			} else if p.Depth < length {
				lessers++
				if both(api.Span(found.blocks[p.Depth]), isInt16) {
					t.Errorf("%v is planned, and all blocks of one more lie in %v", p, found.blocks[p.Depth])
				}
			}
		}
	}
	for kind := api.Dense; kind <= api.Average; kind++ {
		if kinds[kind] < 100 {
			t.Errorf("kind %d: only %d ops", kind, kinds[kind])
		}
	}
	if wides < 300 || lessers < 100 {
		t.Errorf("%d wide plans, %d narrow ones with less than the length", wides, lessers)
	}
}

// driven are numbers of the span for tensor A that bring a channel's sum at a
// position furthest up, or furthest down.
func driven(m api.Model, at place, position int, s api.Span, up bool) []int8 {
	a := secondShape(m, m.Ops[at.op-1].A)
	x := slices.Repeat([]int8{int8(s.Lo)}, a.H*a.W*a.C)
	row, _, _ := terms.Of(m, at.op, at.ch, position)
	for _, term := range row {
		if term.At >= 0 && up == (term.W > 0) {
			x[term.At] = int8(s.Hi)
		}
	}
	return x
}

// P5: of ops further on, too: each Total is reached at both ends by numbers of
// the planned range of the tensor that the op reads.
func TestTotalsAreReached(t *testing.T) {
	r := rand.New(rand.NewSource(201))
	behind := 0
	for _, n := range manyModels(r, 300) {
		c, f := plan.Plan(n.m)
		if f != (api.Fault{}) {
			continue
		}
		for _, at := range some(places(n.m), 6) {
			reads := n.m.Ops[at.op-1].A
			behind += min(reads, 1)
			sums := none()
			positions, _ := terms.Positions(n.m, at.op)
			for position := range positions {
				for _, up := range []bool{false, true} {
					totals, _ := plain.Totals(n.m, at.op, driven(n.m, at, position, c.Ranges[reads], up))
					sums.take(totals[position*len(c.Plans[at.op-1])+at.ch-1])
				}
			}
			if api.Span(sums) != at.of(c).Total {
				t.Errorf("%s: %v: the Total %v is planned, and %v is reached", n.name, at, at.of(c).Total, sums)
			}
		}
	}
	if behind < 100 {
		t.Errorf("only %d behind other ops", behind)
	}
}

package check_test

import (
	"fmt"
	"math"
	"math/rand"
	"slices"
	"testing"

	"spillway/api"
)

// holdPlan holds a plan's error to what the second reading answers.
func holdPlan(t *testing.T, name string, m api.Model, op, ch int, s api.Span, p api.Chan) api.Errno {
	t.Helper()
	want := secondChan(m, op, ch, s, p)
	expectChan(t, name, m, op, ch, s, p, want)
	return want
}

// plansOf are such that claim no more than they must, with some depths, and of
// both widths.
func (r reading) plansOf() []api.Chan {
	all := []api.Chan{r.claiming(32, r.length)}
	for _, depth := range slices.Compact([]int{1, max(1, r.length/2), max(1, r.length-1), r.length}) {
		all = append(all, r.claiming(16, depth))
	}
	return all
}

// P17.2: the planned certificates' plans hold, one by one.
func TestPlansThatHold(t *testing.T) {
	for _, n := range smallModels() {
		c := plannedFor(t, n)
		for _, at := range places(n.m) {
			over := c.Ranges[n.m.Ops[at.op-1].A]
			expectChan(t, n.name, n.m, at.op, at.ch, over, *at.of(c), api.OK)
			r := read(n.m, at.op, at.ch, over)
			expectChan(t, n.name+", 32 wide", n.m, at.op, at.ch, over, r.claiming(32, r.length), api.OK)
		}
	}
}

// P17.2, error 2: every width but 16 and 32, beside claims that would hold.
func TestWidths(t *testing.T) {
	for _, n := range smallModels() {
		c := plannedFor(t, n)
		for _, at := range some(places(n.m), 5) {
			over := c.Ranges[n.m.Ops[at.op-1].A]
			for _, width := range widthsThatAreNone() {
				p := *at.of(c)
				p.Width = width
				expectChan(t, n.name, n.m, at.op, at.ch, over, p, api.ErrWidth)
				p.Depth = 0
				expectChan(t, n.name, n.m, at.op, at.ch, over, p, api.ErrWidth)
			}
		}
	}
}

// P17.2, error 3: depths at each end and beyond it, of ops of each kind that
// reduces; 32 wide the length alone.
func TestDepths(t *testing.T) {
	for _, n := range smallModels() {
		c := plannedFor(t, n)
		for _, at := range some(places(n.m), 5) {
			over := c.Ranges[n.m.Ops[at.op-1].A]
			r := read(n.m, at.op, at.ch, over)
			for _, width := range []int{16, 32} {
				p := r.claiming(width, r.length)
				p.Part = register(width)
				for _, p.Depth = range depthsThatAreNone(r.length) {
					expectChan(t, n.name, n.m, at.op, at.ch, over, p, api.ErrDepth)
				}
			}
			for depth := 1; depth <= r.length; depth++ {
				want := api.ErrDepth
				if depth == r.length {
					want = api.OK
				}
				p := r.claiming(32, r.length)
				p.Depth = depth
				expectChan(t, n.name+", 32 wide", n.m, at.op, at.ch, over, p, want)
				want = api.OK
				if !both(r.part(depth), isInt16) {
					want = api.ErrWide
				}
				expectChan(t, n.name+", 16 wide", n.m, at.op, at.ch, over, r.claiming(16, depth), want)
			}
		}
	}
}

// spoil is something that is done to a plan, or to its model: the field that it
// touches, and the error that comes of it.
type spoil struct {
	field string
	error api.Errno
	do    func(m *api.Model, p *api.Chan)
}

// spoilsOf are several of each of the six errors, for a plan of that width of
// the model of spoilt.
func spoilsOf(width int) []spoil {
	limit := register(width)
	const least, most = math.MinInt64, math.MaxInt64
	all := []spoil{
		{"Run", api.ErrWide, func(m *api.Model, p *api.Chan) { m.Ops[0].Bias = []int32{math.MaxInt32} }},
		{"Run", api.ErrWide, func(m *api.Model, p *api.Chan) { m.Ops[0].Bias = []int32{math.MaxInt32 - 2} }},
	}
	for _, n := range []int{0, 8, 64, -16} {
		all = append(all, spoil{"Width", api.ErrWidth, func(m *api.Model, p *api.Chan) { p.Width = n }})
	}
	for _, n := range []int{0, 3, -1, math.MaxInt} {
		all = append(all, spoil{"Depth", api.ErrDepth, func(m *api.Model, p *api.Chan) { p.Depth = n }})
	}
	if width == 32 {
		all = append(all, spoil{"Depth", api.ErrDepth, func(m *api.Model, p *api.Chan) { p.Depth = 1 }})
	}
	ends := []struct {
		field string
		error api.Errno
		end   func(p *api.Chan) *int64
		to    int64
	}{
		{"Part.Lo", api.ErrSpan, func(p *api.Chan) *int64 { return &p.Part.Lo }, most},
		{"Part.Hi", api.ErrSpan, func(p *api.Chan) *int64 { return &p.Part.Hi }, least},
		{"Total.Lo", api.ErrSpan, func(p *api.Chan) *int64 { return &p.Total.Lo }, most},
		{"Total.Hi", api.ErrSpan, func(p *api.Chan) *int64 { return &p.Total.Hi }, least},
		{"Part.Lo", api.ErrWide, func(p *api.Chan) *int64 { return &p.Part.Lo }, limit.Lo - 1},
		{"Part.Hi", api.ErrWide, func(p *api.Chan) *int64 { return &p.Part.Hi }, limit.Hi + 1},
		{"Total.Lo", api.ErrWide, func(p *api.Chan) *int64 { return &p.Total.Lo }, math.MinInt32 - 1},
		{"Total.Hi", api.ErrWide, func(p *api.Chan) *int64 { return &p.Total.Hi }, math.MaxInt32 + 1},
		{"Part.Lo", api.ErrPart, func(p *api.Chan) *int64 { return &p.Part.Lo }, 1},
		{"Part.Hi", api.ErrPart, func(p *api.Chan) *int64 { return &p.Part.Hi }, 2},
		{"Total.Lo", api.ErrTotal, func(p *api.Chan) *int64 { return &p.Total.Lo }, 1},
		{"Total.Hi", api.ErrTotal, func(p *api.Chan) *int64 { return &p.Total.Hi }, -1},
	}
	for _, e := range ends {
		all = append(all, spoil{e.field, e.error, func(m *api.Model, p *api.Chan) { *e.end(p) = e.to }})
	}
	return all
}

// spoilt is a plan of that width that holds, with these things done to it: over
// {1, 1} the terms are 3 and -3, so that the sums come back to the bias.
func spoilt(width int, spoils ...spoil) (api.Model, api.Chan) {
	m := row(0, 3, -3)
	p := api.Chan{Width: width, Depth: 2, Part: span(-3, 3), Total: span(-5, math.MaxInt32)}
	for _, s := range spoils {
		s.do(&m, &p)
	}
	return m, p
}

// P17.2: each of the six errors alone, in every way; of Check it is a fault of
// that channel.
func TestErrorsAlone(t *testing.T) {
	s := span(1, 1)
	for _, width := range []int{16, 32} {
		m, p := spoilt(width)
		expectChan(t, "unspoilt", m, 1, 1, s, p, api.OK)
		for _, one := range spoilsOf(width) {
			m, p := spoilt(width, one)
			name := fmt.Sprint(width, " ", one.field)
			expectChan(t, name, m, 1, 1, s, p, one.error)
			found := read(m, 1, 1, s).errors(p)
			if !slices.Contains(found, one.error) || found[0] != one.error {
				t.Errorf("%s: the second reading finds %v", name, found)
			}
			m.Lo, m.Hi = 1, 1
			c := api.Cert{Ranges: list(s, span(-128, 127)), Plans: [][]api.Chan{{p}}}
			expectCheck(t, name, m, c, api.Fault{Err: one.error, Op: 1, Chan: 1})
		}
	}
}

// P17.2, rule 1: each two of the six errors together: the one that the chapter
// names first is answered.
func TestErrorsInPairs(t *testing.T) {
	s := span(1, 1)
	order := errorsInOrder()
	rank := func(e api.Errno) int { return slices.Index(order, e) }
	for _, width := range []int{16, 32} {
		pairs := map[[2]api.Errno]int{}
		for _, a := range spoilsOf(width) {
			for _, b := range spoilsOf(width) {
				if a.field == b.field || rank(a.error) > rank(b.error) {
					continue
				}
				m, p := spoilt(width, a, b)
				found := read(m, 1, 1, s).errors(p)
				if !slices.Contains(found, a.error) {
					continue // one undid the other
				}
				name := fmt.Sprint(width, " ", a.field, " ", b.field)
				expectChan(t, name, m, 1, 1, s, p, found[0])
				// Without a width or a depth there is nothing that Part must hold.
				unasked := b.error == api.ErrPart && (a.error == api.ErrWidth || a.error == api.ErrDepth)
				if found[0] == a.error && (slices.Contains(found, b.error) || unasked) {
					pairs[[2]api.Errno{a.error, b.error}]++
				}
			}
		}
		for i, a := range order {
			for _, b := range order[i+1:] {
				if pairs[[2]api.Errno{a, b}] == 0 {
					t.Errorf("%d wide: errors %d and %d weren't held together", width, int(a), int(b))
				}
			}
		}
	}
}

// P17.2, rule 1: any number of things done together.
func TestErrorsTogether(t *testing.T) {
	r := rand.New(rand.NewSource(171))
	for range 20000 {
		width := anyOf(r, 16, 32)
		all := spoilsOf(width)
		var few []spoil
		for range 2 + r.Intn(5) {
			few = append(few, anyOf(r, all...))
		}
		m, p := spoilt(width, few...)
		holdPlan(t, "together", m, 1, 1, span(1, 1), p)
	}
}

// about are a number, the one below it and the one above it.
func about(numbers ...int64) []int64 {
	var all []int64
	for _, n := range numbers {
		all = append(all, n-1, n, n+1)
	}
	return all
}

// ends are numbers at the ends of 16 and of 32 bits, as far out as an int64
// goes, and such whose low bits would be narrow.
func ends() []int64 {
	all := about(math.MinInt16, math.MaxInt16, math.MinInt32, math.MaxInt32, 1<<16, -1<<16, 1<<32, -1<<32, 0)
	return append(all, math.MinInt64, math.MinInt64+1, math.MaxInt64, math.MaxInt64-1)
}

// P17.2, errors 1, 4, 5, 6: Part and Total with each two ends at the ends of
// the registers, and about those that they must have.
func TestEndsOfClaims(t *testing.T) {
	s := span(0, 10)
	counts := map[api.Errno]int{}
	for _, m := range []api.Model{denseExample(), row(-7, 3000, -1), row(1000, 0, 0, 0)} {
		for _, good := range read(m, 1, 1, s).plansOf() {
			for _, lo := range append(ends(), about(good.Part.Lo, good.Part.Hi)...) {
				for _, hi := range append(ends(), about(good.Part.Lo, good.Part.Hi)...) {
					p := good
					p.Part = span(lo, hi)
					counts[holdPlan(t, "Part", m, 1, 1, s, p)]++
				}
			}
			for _, lo := range append(ends(), about(good.Total.Lo, good.Total.Hi)...) {
				for _, hi := range append(ends(), about(good.Total.Lo, good.Total.Hi)...) {
					p := good
					p.Total = span(lo, hi)
					counts[holdPlan(t, "Total", m, 1, 1, s, p)]++
				}
			}
		}
	}
	for _, e := range []api.Errno{api.OK, api.ErrSpan, api.ErrWide, api.ErrPart, api.ErrTotal} {
		if counts[e] < 50 {
			t.Errorf("error %d came up %d times only", int(e), counts[e])
		}
	}
}

// moved is the span with its ends moved by so much.
func moved(s api.Span, lo, hi int64) api.Span { return span(s.Lo+lo, s.Hi+hi) }

// holdByOne turns a plan that holds by one at each end of its claims: wider it
// holds still, if the registers have room; narrower it is refused.
func holdByOne(t *testing.T, name string, m api.Model, op, ch int, s api.Span, good api.Chan) {
	t.Helper()
	expectChan(t, name, m, op, ch, s, good, api.OK)
	tries := func(claim *api.Span, p *api.Chan, limit api.Span, refused api.Errno) {
		t.Helper()
		must := *claim
		for _, by := range [][2]int64{{-1, 0}, {0, 1}, {-1, 1}, {1, 0}, {0, -1}, {1, -1}, {1, 1}, {-1, -1}, {must.Hi - must.Lo + 1, must.Hi - must.Lo + 1}} {
			*claim = moved(must, by[0], by[1])
			want := api.OK
			switch {
			case claim.Lo > claim.Hi:
				want = api.ErrSpan
			case !holds(limit, *claim):
				want = api.ErrWide
			case !holds(*claim, must):
				want = refused
			}
			expectChan(t, name+", by one", m, op, ch, s, *p, want)
		}
	}
	part, total := good, good
	tries(&part.Part, &part, register(good.Width), api.ErrPart)
	tries(&total.Total, &total, register(32), api.ErrTotal)
}

// P17.4, P17.5: of ops of each kind that reduces, of both widths.
func TestClaimsByOne(t *testing.T) {
	for _, n := range smallModels() {
		c := plannedFor(t, n)
		for _, at := range some(places(n.m), 8) {
			over := c.Ranges[n.m.Ops[at.op-1].A]
			r := read(n.m, at.op, at.ch, over)
			holdByOne(t, n.name, n.m, at.op, at.ch, over, r.claiming(32, r.length))
			for _, depth := range some(r.safe(), 4) {
				holdByOne(t, n.name, n.m, at.op, at.ch, over, r.claiming(16, depth))
			}
		}
	}
}

func TestClaimsByOneRandom(t *testing.T) {
	r := rand.New(rand.NewSource(172))
	for range 400 {
		m := anyModel(r, 3)
		for _, at := range places(m) {
			over := anySpan(r)
			found := read(m, at.op, at.ch, over)
			if both(found.run(), isInt32) {
				holdByOne(t, "random", m, at.op, at.ch, over, anyWidthAndDepth(r)(found))
			}
		}
	}
}

// P17.2, error 4: what a register of 16 bits must bear at the ends of 16 bits,
// and one beyond them: by a single product, by a partial sum in the midst of a
// block, by one at its end.
func TestPartsAtTheEnds(t *testing.T) {
	s := span(1, 1)
	for _, x := range []struct {
		weights []int16
		depth   int
		part    api.Span
		holds   bool
	}{
		{[]int16{math.MaxInt16}, 1, span(32767, 32767), true},
		{[]int16{math.MinInt16}, 1, span(-32768, -32768), true},
		{[]int16{math.MaxInt16, 1}, 1, span(1, 32767), true},
		{[]int16{math.MaxInt16, 1}, 2, span(1, 32768), false},
		{[]int16{math.MaxInt16, 0}, 2, span(0, 32767), true},
		{[]int16{math.MaxInt16 - 1, 1}, 2, span(1, 32767), true},
		{[]int16{math.MinInt16, -1}, 1, span(-32768, -1), true},
		{[]int16{math.MinInt16, -1}, 2, span(-32769, -1), false},
		{[]int16{math.MinInt16 + 1, -1}, 2, span(-32768, -1), true},
		{[]int16{math.MaxInt16, 1, -1}, 3, span(-1, 32768), false},
		{[]int16{math.MaxInt16, 1, -1}, 2, span(-1, 32768), false},
		{[]int16{math.MaxInt16, -1, 1}, 3, span(-1, 32767), true},
		{[]int16{1, math.MaxInt16, -1}, 2, span(-1, 32768), false},
		{[]int16{1, math.MaxInt16, -1}, 1, span(-1, 32767), true},
		{[]int16{5, math.MaxInt16, 1, math.MinInt16, -1}, 2, span(-32768, 32772), false},
		{[]int16{-5, math.MaxInt16, 5, math.MinInt16, -1}, 2, span(-32768, 32767), true},
		{[]int16{-5, math.MaxInt16, -5, math.MinInt16, -1}, 2, span(-32773, 32767), false},
	} {
		m := row(0, x.weights...)
		r := read(m, 1, 1, s)
		p := narrow(x.depth, x.part, r.total())
		if got := r.part(x.depth); got != x.part {
			t.Errorf("%v with the depth %d: the second reading finds %v; want %v", x.weights, x.depth, got, x.part)
		}
		whole := p
		whole.Part = register(16)
		if x.holds {
			holdByOne(t, "the end", m, 1, 1, s, p)
			expectChan(t, "all of 16 bits", m, 1, 1, s, whole, api.OK)
		} else {
			expectChan(t, "beyond", m, 1, 1, s, p, api.ErrWide)
			expectChan(t, "beyond, all of 16 bits", m, 1, 1, s, whole, api.ErrPart)
		}
	}
}

// P17.2, error 4: running sums at the ends of 32 bits, and one beyond them: the
// last one, one in the midst that comes back, and the bias itself. Neither width
// is taken beyond.
func TestRunsAtTheEnds(t *testing.T) {
	const most, least = math.MaxInt32, math.MinInt32
	for _, x := range []struct {
		bias       int32
		weights    []int16
		s          api.Span
		run, total api.Span
	}{
		{most - 1, []int16{1}, span(1, 1), span(most-1, most), span(most, most)},
		{most, []int16{1}, span(1, 1), span(most, most+1), span(most+1, most+1)},
		{most, []int16{0}, span(1, 1), span(most, most), span(most, most)},
		{most, []int16{-1}, span(0, 1), span(most-1, most), span(most-1, most)},
		{most, []int16{1}, span(-1, 0), span(most-1, most), span(most-1, most)},
		{most, []int16{1}, span(-1, 1), span(most-1, most+1), span(most-1, most+1)},
		{least, []int16{-1}, span(1, 1), span(least-1, least), span(least-1, least-1)},
		{least + 1, []int16{-1}, span(1, 1), span(least, least+1), span(least, least)},
		{least, []int16{0}, span(1, 1), span(least, least), span(least, least)},
		{least, []int16{1}, span(0, 1), span(least, least+1), span(least, least+1)},
		{least, []int16{1}, span(-1, 0), span(least-1, least), span(least-1, least)},
		{most, []int16{1, -1}, span(1, 1), span(most, most+1), span(most, most)},
		{most - 1, []int16{1, -1}, span(1, 1), span(most-1, most), span(most-1, most-1)},
		{most, []int16{-1, 1}, span(1, 1), span(most-1, most), span(most, most)},
		{least, []int16{-1, 1}, span(1, 1), span(least-1, least), span(least, least)},
		{least + 1, []int16{-1, 1}, span(1, 1), span(least, least+1), span(least+1, least+1)},
		{most - 3, []int16{1, 2, 1, -4}, span(1, 1), span(most-3, most+1), span(most-3, most-3)},
		{most - 4, []int16{1, 2, 1, -4}, span(1, 1), span(most-4, most), span(most-4, most-4)},
	} {
		m := row(x.bias, x.weights...)
		r := read(m, 1, 1, x.s)
		if r.run() != x.run || r.total() != x.total {
			t.Errorf("%v: the second reading finds %v, %v; want %v, %v", x, r.run(), r.total(), x.run, x.total)
		}
		for depth := 1; depth <= r.length; depth++ {
			for _, p := range []api.Chan{r.claiming(16, depth), wide(r.length, x.run, x.total)} {
				whole := p
				whole.Part, whole.Total = register(p.Width), register(32)
				if x.run.Lo < least || x.run.Hi > most {
					expectChan(t, "beyond", m, 1, 1, x.s, p, api.ErrWide)
					expectChan(t, "beyond, all there is", m, 1, 1, x.s, whole, api.ErrWide)
				} else {
					holdByOne(t, "the end", m, 1, 1, x.s, p)
					expectChan(t, "all there is", m, 1, 1, x.s, whole, api.OK)
				}
			}
		}
	}
}

// P17.2, error 4: it is the running sums over the span at hand that count, at
// every position: those over padding, too.
func TestRunsOverPadding(t *testing.T) {
	op := conv(of(1, 2, 1), 1, padded(kernel(1, 2, 1, 1), 0, 1, 0, 0))
	op.Weights, op.Bias, op.Pad = []int16{1, 1}, []int32{math.MaxInt32 - 10}, 9
	for _, pad := range []int{-128, 8, 9, 10, 11, 127} {
		m := star(of(1, 2, 1), op)
		m.Ops[0].Pad = pad
		for _, s := range list(span(0, 0), span(0, 1), span(0, 2), span(1, 1), span(5, 5), span(5, 6), span(-128, 5), span(-128, -1)) {
			for _, p := range []api.Chan{narrow(2, register(16), register(32)), wide(2, register(32), register(32))} {
				want := api.OK
				if int64(pad)+s.Hi > 10 || 2*s.Hi > 10 || pad > 10 {
					want = api.ErrWide
				}
				expectChan(t, fmt.Sprint("padding ", pad), m, 1, 1, s, p, want)
			}
		}
	}
}

// P17.2: every depth of channels whose blocks fit with some depths and not with
// others: with one that doesn't fit nothing that is claimed is taken.
func TestDepthsThatFit(t *testing.T) {
	r := rand.New(rand.NewSource(173))
	between := 0
	for range 300 {
		weights := make([]int16, 1+r.Intn(12))
		most := anyOf(r, 60, 120, 200, 260)
		for i := range weights {
			weights[i] = int16(r.Intn(2*most+1) - most)
		}
		m, s := row(int32(r.Intn(1000)), weights...), anyOf(r, span(-128, 127), span(100, 127), span(0, 127), anySpan(r))
		found := read(m, 1, 1, s)
		safe := found.safe()
		for depth := 1; depth <= found.length; depth++ {
			exact := found.claiming(16, depth)
			whole := exact
			whole.Part = register(16)
			want := []api.Errno{api.ErrWide, api.ErrPart}
			if slices.Contains(safe, depth) {
				want = []api.Errno{api.OK, api.OK}
			} else if len(safe) > 0 && depth < safe[len(safe)-1] {
				between++
			}
			expectChan(t, "as it is", m, 1, 1, s, exact, want[0])
			expectChan(t, "all of 16 bits", m, 1, 1, s, whole, want[1])
		}
	}
	if between < 20 {
		t.Errorf("only %d depths that don't fit lay below one that does", between)
	}
}

package check_test

import (
	"math/rand"
	"slices"
	"testing"

	"spillway/api"
	"spillway/check"
	"spillway/model"
	"spillway/plain"
	"spillway/terms"
)

func placesOf(s api.Shape) int { return s.H * s.W * s.C }

// numbersOf are so many of the span, both its ends among the likely ones.
func numbersOf(r *rand.Rand, n int, s api.Span) []int8 {
	list := make([]int8, n)
	for i := range list {
		between := s.Lo + r.Int63n(s.Hi-s.Lo+1)
		list[i] = int8(anyOf(r, s.Lo, s.Hi, between))
	}
	return list
}

// inputs are numbers of the declared range: all at one end, at both in turn,
// any, and such that drive a sum of an op that reads the input to its ends.
func inputs(r *rand.Rand, m api.Model) [][]int8 {
	n, s := placesOf(m.In), span(int64(m.Lo), int64(m.Hi))
	lo, hi := int8(m.Lo), int8(m.Hi)
	turns := slices.Repeat([]int8{lo, hi}, n)
	all := [][]int8{slices.Repeat([]int8{lo}, n), slices.Repeat([]int8{hi}, n), turns[:n], turns[1 : n+1], numbersOf(r, n, s)}
	for _, at := range some(places(m), 4) {
		if m.Ops[at.op-1].A == 0 {
			all = append(all, driven(r, m, at, s, true), driven(r, m, at, s, false))
		}
	}
	return all
}

// driven are numbers of the span that bring a channel's sum at some position
// furthest up, or furthest down.
func driven(r *rand.Rand, m api.Model, at place, s api.Span, up bool) []int8 {
	x := numbersOf(r, placesOf(m.In), s)
	positions, _ := terms.Positions(m, at.op)
	row, _, _ := terms.Of(m, at.op, at.ch, r.Intn(positions))
	for _, term := range row {
		if term.At < 0 {
			continue
		}
		x[term.At] = int8(s.Lo)
		if up == (term.W > 0) {
			x[term.At] = int8(s.Hi)
		}
	}
	return x
}

func has(s api.Span, n int64) bool { return s.Lo <= n && n <= s.Hi }

// products are those of a sum, one by one, over these numbers.
func products(row []api.Term, pad int, a []int8) []int64 {
	all := make([]int64, len(row))
	for i, term := range row {
		number := pad
		if term.At >= 0 {
			number = int(a[term.At])
		}
		all[i] = int64(term.W) * int64(number)
	}
	return all
}

// bears: is one sum, gone through as the plan has it, held by what is claimed,
// and does no register come to anything else than whole numbers do? The sum is
// answered, too.
func bears(p api.Chan, bias int64, terms []int64) (int64, bool) {
	sum, spilled, block, inBlock := bias, int32(bias), int16(0), int64(0)
	ok := isInt32(bias)
	for i, product := range terms {
		sum += product
		ok = ok && isInt32(sum)
		if p.Width == 32 {
			spilled += int32(product)
			ok = ok && has(p.Part, sum) && int64(spilled) == sum
			continue
		}
		if i%p.Depth == 0 {
			block, inBlock = 0, 0
		}
		block, inBlock = block+int16(product), inBlock+product
		ok = ok && isInt16(product) && has(p.Part, product) && has(p.Part, inBlock) && int64(block) == inBlock
		if i%p.Depth == p.Depth-1 || i == len(terms)-1 {
			spilled += int32(block)
			ok = ok && int64(spilled) == sum
		}
	}
	return sum, ok && has(p.Total, sum) && int64(spilled) == sum
}

// holdTaken holds all that layer 11 makes of an input within a certificate that
// was taken.
func holdTaken(t *testing.T, name string, m api.Model, c api.Cert, x []int8) {
	t.Helper()
	tensors, fault := plain.Tensors(m, x)
	if fault != (api.Fault{}) {
		t.Fatalf("%s: layer 11: %v", name, fault)
	}
	for n, tensor := range tensors {
		for _, number := range tensor {
			if !has(c.Ranges[n], int64(number)) {
				t.Fatalf("%s: tensor %d has %d, claimed is %v\n%+v", name, n, number, c.Ranges[n], m)
			}
		}
	}
	for _, op := range reducing(m) {
		o := m.Ops[op-1]
		totals, _ := plain.Totals(m, op, tensors[o.A])
		channels := len(c.Plans[op-1])
		for i, whole := range totals {
			at := place{op, i%channels + 1}
			row, bias, _ := terms.Of(m, op, at.ch, i/channels)
			sum, ok := bears(*at.of(c), bias, products(row, o.Pad, tensors[o.A]))
			if !ok || sum != whole {
				t.Fatalf("%s: %v: the sum %d at position %d isn't borne, or isn't %d\n%+v\n%+v", name, at, sum, i/channels, whole, *at.of(c), m)
			}
		}
	}
}

// P17.3, P2: planned certificates, and others that hold, of ops of every kind.
func TestWhatIsTakenIsBorne(t *testing.T) {
	r := rand.New(rand.NewSource(178))
	for _, n := range smallModels() {
		certs := []api.Cert{plannedFor(t, n)}
		for range 4 {
			if c, ok := anyHolding(r, n.m); ok {
				certs = append(certs, c)
			}
		}
		for _, c := range certs {
			expectCheck(t, n.name, n.m, c, api.Fault{})
			for _, x := range inputs(r, n.m) {
				holdTaken(t, n.name, n.m, c, x)
			}
		}
	}
}

// P17.3, P2: whatever certificate it is: if it is taken, all is borne. Some of
// these are turned, and taken all the same.
func TestWhatIsTakenIsBorneRandom(t *testing.T) {
	r := rand.New(rand.NewSource(179))
	taken, turned := 0, 0
	for range 2500 {
		m := anyModel(r, 4)
		c, _ := anyHolding(r, m)
		turns := anyOf(r, 0, 1, 1, 2)
		for range turns {
			turnCert(r, &c)
		}
		if check.Check(m, c) != (api.Fault{}) {
			continue
		}
		taken++
		turned += turns
		for _, x := range inputs(r, m) {
			holdTaken(t, "random", m, c, x)
		}
	}
	if taken < 800 || turned < 300 {
		t.Errorf("%d were taken only, with %d turns", taken, turned)
	}
}

// seen is what the sums of a channel came to, over all numbers that it was
// shown.
type seen struct {
	total, run gathered
	parts      map[int]*gathered
}

// show goes through all positions of a channel, term by term.
func (s *seen) show(m api.Model, op, ch int, a []int8) {
	positions, _ := terms.Positions(m, op)
	for at := range positions {
		row, bias, _ := terms.Of(m, op, ch, at)
		sum := bias
		s.run.take(sum)
		all := products(row, m.Ops[op-1].Pad, a)
		for i, p := range all {
			sum += p
			s.run.take(sum)
			for depth, part := range s.parts {
				inBlock := int64(0)
				for _, before := range all[i/depth*depth : i+1] {
					inBlock += before
				}
				part.take(p, inBlock)
			}
		}
		s.total.take(sum)
	}
}

// everyList goes through all lists of so many numbers of the span.
func everyList(n int, s api.Span, do func([]int8)) {
	list := slices.Repeat([]int8{int8(s.Lo)}, n)
	for {
		do(list)
		i := 0
		for i < n && int64(list[i]) == s.Hi {
			list[i] = int8(s.Lo)
			i++
		}
		if i == n {
			return
		}
		list[i]++
	}
}

// shownAll is what one channel came to over all inputs, and the tensor that its
// op makes.
func shownAll(m api.Model, ch, length int) (seen, gathered) {
	found := seen{none(), none(), map[int]*gathered{}}
	for depth := 1; depth <= length; depth++ {
		g := none()
		found.parts[depth] = &g
	}
	made := none()
	everyList(placesOf(m.In), span(int64(m.Lo), int64(m.Hi)), func(x []int8) {
		found.show(m, 1, ch, x)
		tensors, _ := plain.Tensors(m, x)
		for _, n := range tensors[1] {
			made.take(int64(n))
		}
	})
	return found, made
}

// borne: does what is claimed hold all that was seen, within the registers?
func (s seen) borne(p api.Chan, length int) bool {
	if !holds(register(32), p.Total) || !holds(register(32), api.Span(s.run)) || !holds(p.Total, api.Span(s.total)) {
		return false
	}
	if p.Width == 32 {
		return p.Depth == length && holds(register(32), p.Part) && holds(p.Part, api.Span(s.run))
	}
	part, ok := s.parts[p.Depth]
	return ok && p.Width == 16 && holds(register(16), p.Part) && holds(p.Part, api.Span(*part))
}

// P17.1 to P17.3, P17.5: of one op over all inputs that there are: just those
// certificates are taken of which all that is claimed is so.
func TestOverAllInputs(t *testing.T) {
	r := rand.New(rand.NewSource(180))
	var kinds [9]int
	taken, refused := 0, 0
	for range 2500 {
		in := anyOf(r, of(1, 1, 1), of(1, 2, 1), of(2, 1, 1), of(1, 1, 3), of(1, 3, 1), of(2, 2, 1), of(1, 2, 2))
		lo := anyOf(r, -128, -3, -2, -1, 0, 1, 125, anyValue(r))
		m := declaring(lo, min(127, lo+r.Intn(3)), star(in, anyOp(r, []api.Shape{in})))
		if model.Check(m) != (api.Fault{}) || !model.Reduces(m.Ops[0].Kind) {
			continue
		}
		kinds[m.Ops[0].Kind]++
		good, _ := planned(m)
		ch := 1 + r.Intn(len(good.Plans[0]))
		length, _ := terms.Length(m, 1)
		found, made := shownAll(m, ch, length)
		others := others(m, good, ch)
		for range 12 {
			c := copied(good)
			p := &c.Plans[0][ch-1]
			for range r.Intn(3) {
				turnPlan(r, p)
			}
			if r.Intn(6) == 0 {
				turnSpan(r, &c.Ranges[1])
			}
			want := others && found.borne(*p, length) && holds(span(-128, 127), c.Ranges[1]) && holds(c.Ranges[1], api.Span(made))
			if got := check.Check(m, c) == (api.Fault{}); got != want {
				t.Fatalf("taken: %v; want %v\n%+v\n%+v", got, want, m, c)
			}
			if want {
				taken++
			} else {
				refused++
			}
		}
	}
	for kind := api.Dense; kind <= api.Average; kind++ {
		if kinds[kind] < 100 {
			t.Errorf("kind %d: only %d ops", kind, kinds[kind])
		}
	}
	if taken < 2000 || refused < 2000 {
		t.Errorf("%d taken, %d refused", taken, refused)
	}
}

// others: do the plans of all channels but that one hold?
func others(m api.Model, c api.Cert, ch int) bool {
	for k, p := range c.Plans[0] {
		if k != ch-1 && read(m, 1, k+1, c.Ranges[0]).error(p) != api.OK {
			return false
		}
	}
	return true
}

// narrower are spans that s holds.
func narrower(r *rand.Rand, s api.Span) []api.Span {
	a, b := s.Lo+r.Int63n(s.Hi-s.Lo+1), s.Lo+r.Int63n(s.Hi-s.Lo+1)
	return list(s, span(s.Lo, s.Lo), span(s.Hi, s.Hi), span(min(s.Lo+1, s.Hi), s.Hi), span(s.Lo, max(s.Hi-1, s.Lo)), span(min(a, b), max(a, b)))
}

// P17.4: a plan that holds over a span holds over narrower ones, and with wider
// claims: of ops of each kind that reduces, of both widths.
func TestPlansThatHoldStill(t *testing.T) {
	r := rand.New(rand.NewSource(181))
	all := smallModels()
	for range 400 {
		all = append(all, named{"random", anyModel(r, 4)})
	}
	widths := map[int]int{}
	for _, n := range all {
		for _, at := range some(places(n.m), 6) {
			over := anySpan(r)
			found := read(n.m, at.op, at.ch, over)
			if !both(found.run(), isInt32) {
				continue
			}
			for _, good := range []api.Chan{found.best(), anyWidthAndDepth(r)(found), found.claiming(32, found.length)} {
				widths[good.Width]++
				expectChan(t, n.name, n.m, at.op, at.ch, over, good, api.OK)
				for _, s := range narrower(r, over) {
					expectChan(t, n.name+", a narrower span", n.m, at.op, at.ch, s, good, api.OK)
					expectChan(t, n.name+", wider claims", n.m, at.op, at.ch, s, widerClaims(r, good), api.OK)
				}
				whole := good
				whole.Part, whole.Total = register(good.Width), register(32)
				expectChan(t, n.name+", all there is", n.m, at.op, at.ch, over, whole, api.OK)
			}
		}
	}
	if widths[16] < 500 || widths[32] < 500 {
		t.Errorf("plans of either width: %v", widths)
	}
}

// P17.4: so a certificate that holds does so with wider claims, and for the
// model with a narrower declared range.
func TestCertificatesThatHoldStill(t *testing.T) {
	r := rand.New(rand.NewSource(182))
	for range 600 {
		m := anyModel(r, 4)
		c, ok := anyHolding(r, m)
		if !ok {
			continue
		}
		expectCheck(t, "as it is", m, c, api.Fault{})
		for _, s := range narrower(r, span(int64(m.Lo), int64(m.Hi))) {
			expectCheck(t, "a narrower declared range", declaring(int(s.Lo), int(s.Hi), m), c, api.Fault{})
		}
		for _, at := range places(m) {
			*at.of(c) = widerClaims(r, *at.of(c))
		}
		expectCheck(t, "wider claims", m, c, api.Fault{})
		c.Ranges[len(m.Ops)] = wider(r, c.Ranges[len(m.Ops)])
		if len(m.Ops) > 0 {
			expectCheck(t, "a wider last range", m, c, api.Fault{})
		}
	}
}

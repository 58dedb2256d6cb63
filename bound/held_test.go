package bound_test

import (
	"math/rand"
	"slices"
	"testing"

	"spillway/api"
	"spillway/bound"
	"spillway/model"
	"spillway/norm"
	"spillway/plain"
	"spillway/terms"
)

func placesOf(s api.Shape) int { return s.H * s.W * s.C }

// holds: does one span hold the other?
func holds(a, b api.Span) bool { return b.Lo <= b.Hi && a.Lo <= b.Lo && b.Hi <= a.Hi }

// answered are what the program's four calls answer of a channel, Part with
// some depths.
func answered(t *testing.T, m api.Model, op, ch int, s api.Span) answers {
	t.Helper()
	a := answers{parts: map[int]api.Span{}}
	var errors [3]api.Errno
	a.total, errors[0] = bound.Total(m, op, ch, s)
	a.run, errors[1] = bound.Run(m, op, ch, s)
	a.single, errors[2] = bound.Product(m, op, ch, s)
	for _, k := range depthsOf(lengthOf(m, op)) {
		part, e := bound.Part(m, op, ch, s, k)
		if e != api.OK {
			t.Fatalf("Part(%d, %d, %v, %d): %d", op, ch, s, k, int(e))
		}
		a.parts[k] = part
	}
	if errors != [3]api.Errno{} {
		t.Fatalf("op %d, channel %d, %v: %v", op, ch, s, errors)
	}
	return a
}

// products are a sum's, one by one, over these numbers.
func products(list []api.Term, pad int, a []int8) []int64 {
	all := make([]int64, len(list))
	for i, term := range list {
		number := pad
		if term.At >= 0 {
			number = int(a[term.At])
		}
		all[i] = int64(term.W) * int64(number)
	}
	return all
}

// seen is what the sums of a channel come to over numbers that it was shown.
type seen struct {
	total, run, single gathered
	parts              map[int]*gathered
}

func nothingSeen(depths []int) *seen {
	s := &seen{none(), none(), none(), map[int]*gathered{}}
	for _, k := range depths {
		g := none()
		s.parts[k] = &g
	}
	return s
}

// show goes through all positions of a channel, term by term; wholes are the
// sums at each.
func (s *seen) show(m api.Model, op, ch int, a []int8) (wholes []int64) {
	positions, _ := terms.Positions(m, op)
	for at := range positions {
		list, bias, _ := terms.Of(m, op, ch, at)
		sum := bias
		s.run.take(sum)
		inBlock := map[int]int64{}
		for i, p := range products(list, m.Ops[op-1].Pad, a) {
			sum += p
			s.run.take(sum)
			s.single.take(p)
			for k, part := range s.parts {
				if i%k == 0 {
					inBlock[k] = 0
				}
				inBlock[k] += p
				part.take(inBlock[k], p)
			}
		}
		s.total.take(sum)
		wholes = append(wholes, sum)
	}
	return wholes
}

// held holds what was seen within the answers.
func (s *seen) held(t *testing.T, name string, a answers) {
	t.Helper()
	ok := holds(a.total, api.Span(s.total)) && holds(a.run, api.Span(s.run)) && holds(a.single, api.Span(s.single))
	for k, part := range s.parts {
		ok = ok && holds(a.parts[k], api.Span(*part))
	}
	if !ok {
		t.Fatalf("%s: not held: seen %+v, the answers %+v", name, *s, a)
	}
}

// numbersOf are so many of the span, both its ends among the likely ones.
func numbersOf(r *rand.Rand, n int, s api.Span) []int8 {
	list := make([]int8, n)
	for i := range list {
		between := s.Lo + r.Int63n(s.Hi-s.Lo+1)
		list[i] = int8(anyOf(r, s.Lo, s.Hi, between))
	}
	return list
}

// lists are numbers of the span for an op's tensor A: all at one end, at both
// in turn, and any.
func lists(r *rand.Rand, n int, s api.Span) [][]int8 {
	lo, hi := int8(s.Lo), int8(s.Hi)
	turns := slices.Repeat([]int8{lo, hi}, n)
	return [][]int8{slices.Repeat([]int8{lo}, n), slices.Repeat([]int8{hi}, n), turns[:n], turns[1 : n+1], numbersOf(r, n, s)}
}

// worst are numbers of the span that bring the sum at a position furthest up,
// or furthest down: each place to the end to which its weight drives it.
func worst(r *rand.Rand, list []api.Term, n int, s api.Span, up bool) []int8 {
	a := numbersOf(r, n, s)
	for _, term := range list {
		if term.At < 0 {
			continue
		}
		a[term.At] = int8(s.Lo)
		if up == (term.W > 0) {
			a[term.At] = int8(s.Hi)
		}
	}
	return a
}

// holdOp holds the sums of each of an op's channels, or of some, over lists of
// numbers of the span, term by term, and has both ends of Total reached.
func holdOp(t *testing.T, r *rand.Rand, name string, m api.Model, op int, s api.Span) {
	t.Helper()
	shapes, _ := model.Shapes(m)
	n := placesOf(shapes[m.Ops[op-1].A])
	channels := channelsOf(m, op)
	for _, ch := range some(1, channels) {
		a := answered(t, m, op, ch, s)
		for _, list := range lists(r, n, s) {
			now := nothingSeen(depthsOf(lengthOf(m, op)))
			wholes := now.show(m, op, ch, list)
			now.held(t, name, a)
			totals, _ := plain.Totals(m, op, list)
			for at, sum := range wholes {
				if totals[at*channels+ch-1] != sum {
					t.Fatalf("%s: op %d, channel %d, position %d: the sum is %d, layer 11 says %d", name, op, ch, at, sum, totals[at*channels+ch-1])
				}
			}
		}
		reached(t, r, name, m, op, ch, n, s, a.total)
	}
}

// reached: are there numbers, and a position, whose sum the ends of Total are?
func reached(t *testing.T, r *rand.Rand, name string, m api.Model, op, ch, n int, s, total api.Span) {
	t.Helper()
	positions, _ := terms.Positions(m, op)
	g := none()
	for at := range positions {
		list, bias, _ := terms.Of(m, op, ch, at)
		for _, up := range []bool{false, true} {
			sum := bias
			for _, p := range products(list, m.Ops[op-1].Pad, worst(r, list, n, s, up)) {
				sum += p
			}
			g.take(sum)
		}
	}
	if api.Span(g) != total {
		t.Fatalf("%s: op %d, channel %d, %v: sums reach %v, Total is %v", name, op, ch, s, g, total)
	}
}

// P13.5: over numbers of the span, of every op that reduces, in its channels.
func TestSumsAreHeld(t *testing.T) {
	r := rand.New(rand.NewSource(131))
	for _, n := range allModels() {
		over := []api.Span{span(-128, 127), span(0, 0), span(-3, -3), span(3, 9), span(-9, -3), span(-5, 6), anySpan(r)}
		if isGreat(n.m) {
			over = []api.Span{span(-128, 127), anySpan(r)}
		}
		for i, op := range n.m.Ops {
			if !model.Reduces(op.Kind) || placesOf(n.m.In) > 10000 {
				continue
			}
			for _, s := range over {
				holdOp(t, r, n.name, n.m, i+1, s)
			}
		}
	}
}

func TestSumsAreHeldRandom(t *testing.T) {
	r := rand.New(rand.NewSource(132))
	for range 700 {
		m := anyModel(r, 4)
		for i, op := range m.Ops {
			if model.Reduces(op.Kind) {
				holdOp(t, r, "random", m, i+1, anySpan(r))
			}
		}
	}
}

// everyList goes through all lists of so many numbers of the span.
func everyList(n int, s api.Span, do func([]int8)) {
	list := slices.Repeat([]int8{int8(s.Lo)}, n)
	for {
		do(list)
		i := 0
		for i < n && int64(list[i]) == s.Hi {
			list[i] = int8(s.Lo)
			i++
		}
		if i == n {
			return
		}
		list[i]++
	}
}

// small are models of one op that reduces over a few numbers.
func small(r *rand.Rand) (api.Model, bool) {
	in := anyOf(r, of(1, 1, 1), of(1, 2, 1), of(2, 1, 1), of(1, 1, 3), of(1, 3, 1), of(2, 2, 1), of(1, 2, 2), of(2, 1, 2), of(4, 1, 1))
	m := star(in, anyOp(r, []api.Shape{in}))
	return m, model.Check(m) == (api.Fault{}) && model.Reduces(m.Ops[0].Kind)
}

// P13.1 to P13.5: over all numbers that there are: nothing lies outside the
// four answers, and each of their ends is reached.
func TestOverAllNumbers(t *testing.T) {
	r := rand.New(rand.NewSource(133))
	for range 8000 {
		m, ok := small(r)
		if !ok {
			continue
		}
		lo := int64(anyOf(r, -128, -3, -2, -1, 0, 1, 125, anyValue(r)))
		s := span(lo, min(127, lo+r.Int63n(3)))
		depths := depthsOf(lengthOf(m, 1))
		for ch := 1; ch <= channelsOf(m, 1); ch++ {
			now := nothingSeen(depths)
			everyList(placesOf(m.In), s, func(a []int8) { now.show(m, 1, ch, a) })
			got := answered(t, m, 1, ch, s)
			exact := got.total == api.Span(now.total) && got.run == api.Span(now.run) && got.single == api.Span(now.single)
			for _, k := range depths {
				exact = exact && got.parts[k] == api.Span(*now.parts[k])
			}
			if !exact {
				t.Fatalf("channel %d, %v: seen %+v, answered %+v\n%+v", ch, s, *now, got, m)
			}
		}
	}
}

// wider are spans that hold s.
func wider(r *rand.Rand, s api.Span) []api.Span {
	return []api.Span{
		span(-128, 127), span(-128, s.Hi), span(s.Lo, 127), span(max(-128, s.Lo-1), s.Hi), span(s.Lo, min(127, s.Hi+1)),
		span(s.Lo-r.Int63n(s.Lo+129), s.Hi+r.Int63n(128-s.Hi)), s,
	}
}

// holdFollowing holds a channel to what P13.6 says.
func holdFollowing(t *testing.T, r *rand.Rand, name string, m api.Model, op, ch int, s api.Span) {
	t.Helper()
	a := answered(t, m, op, ch, s)
	quick, _ := norm.Quick(m, op, ch, s)
	ok := holds(a.run, a.total) && a.parts[1] == a.single && holds(quick, a.run)
	for _, part := range a.parts {
		ok = ok && holds(part, a.single)
	}
	if !ok {
		t.Fatalf("%s: op %d, channel %d, %v: %+v, Quick %v", name, op, ch, s, a, quick)
	}
	for _, w := range wider(r, s) {
		b := answered(t, m, op, ch, w)
		ok := holds(b.total, a.total) && holds(b.run, a.run) && holds(b.single, a.single)
		for k, part := range a.parts {
			ok = ok && holds(b.parts[k], part)
		}
		if !ok {
			t.Fatalf("%s: op %d, channel %d: over %v %+v, over %v %+v", name, op, ch, s, a, w, b)
		}
	}
}

// P13.6.
func TestWhatFollows(t *testing.T) {
	r := rand.New(rand.NewSource(134))
	all := allModels()
	for range 1000 {
		all = append(all, named{"random", anyModel(r, 4)})
	}
	for _, n := range all {
		over := []api.Span{anySpan(r)}
		if n.name != "random" && !isGreat(n.m) {
			over = []api.Span{span(0, 0), span(3, 9), span(-128, -100), span(-5, 6), span(0, 127), anySpan(r)}
		}
		for i, op := range n.m.Ops {
			if !model.Reduces(op.Kind) || placesOf(n.m.In) > 10000 {
				continue
			}
			channels := some(1, channelsOf(n.m, i+1))
			for _, ch := range channels[:min(4, len(channels))] {
				for _, s := range over {
					holdFollowing(t, r, n.name, n.m, i+1, ch, s)
				}
			}
		}
	}
}

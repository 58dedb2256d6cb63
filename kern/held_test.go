package kern_test

import (
	"math"
	"math/rand"
	"slices"
	"testing"

	"spillway/api"
	"spillway/bound"
	"spillway/cert"
	"spillway/check"
	"spillway/depth"
	"spillway/fixq"
	"spillway/flow"
	"spillway/kern"
	"spillway/lane"
	"spillway/plain"
	"spillway/plan"
	"spillway/terms"
)

func span(lo, hi int64) api.Span { return api.Span{Lo: lo, Hi: hi} }

func has(s api.Span, n int64) bool { return s.Lo <= n && n <= s.Hi }

// numberAt is what a term goes with.
func numberAt(term api.Term, pad int, a []int8) int8 {
	if term.At < 0 {
		return int8(pad)
	}
	return a[term.At]
}

// throughLayers is what an op that reduces makes, of what layers 2, 10 and 20
// answer.
func throughLayers(q asked) ([]int8, api.Track) {
	o := q.m.Ops[q.op-1]
	positions, _ := terms.Positions(q.m, q.op)
	var made []int8
	var track api.Track
	for at := range positions {
		for i, p := range q.plans {
			row, bias, _ := terms.Of(q.m, q.op, i+1, at)
			var ws []int16
			var xs []int8
			for _, term := range row {
				ws, xs = append(ws, int16(term.W)), append(xs, numberAt(term, o.Pad, q.a))
			}
			t, one, _ := lane.Dot(ws, xs, p.Width, p.Depth, int32(bias))
			v, _ := fixq.Mean(int64(t), len(row))
			if o.Kind != api.Average {
				v, _ = fixq.Apply(int64(t), o.SA)
			}
			number, _ := fixq.Finish(v, o.Zero, o.Lo, o.Hi)
			made, track = append(made, int8(number)), lane.Join(track, one)
		}
	}
	return made, track
}

// P21.2: against layers 2, 10 and 20, of ops of each kind that reduces.
func TestAgainstTheLayersBelow(t *testing.T) {
	r := rand.New(rand.NewSource(41))
	all := smallModels()
	for _, n := range smallModels() {
		all = append(all, named{n.name + ", steeper", steeper(n.m, 9)})
	}
	for range 1500 {
		all = append(all, named{"random", anyModel(r, 4)})
	}
	for _, n := range all {
		for _, op := range reducing(n.m) {
			q := askedOf(r, n.m, op, anyPlans(r, n.m, op))
			want, track := throughLayers(q)
			expect(t, n.name, q, want, track)
		}
	}
}

// tensorsOf are those that layer 11 makes of an input.
func tensorsOf(t *testing.T, name string, m api.Model, x []int8) [][]int8 {
	t.Helper()
	tensors, f := plain.Tensors(m, x)
	if f != (api.Fault{}) {
		t.Fatalf("%s: layer 11: %v", name, f)
	}
	return tensors
}

// over is what an op is handed with these tensors.
func over(m api.Model, op int, plans []api.Chan, tensors [][]int8) asked {
	o := m.Ops[op-1]
	return asked{m, op, plans, tensors[o.A], tensors[o.B]}
}

// declared are numbers of the declared range.
func declared(r *rand.Rand, m api.Model) []int8 {
	list := make([]int8, placesOf(m.In))
	for i := range list {
		list[i] = int8(anyOf(r, m.Lo, m.Hi, m.Lo+r.Intn(m.Hi-m.Lo+1)))
	}
	return list
}

// P21.3: where no register wraps, what is made is what layer 11 makes, whether
// or not the plan holds; where some do, it mostly isn't.
func TestWithoutWrapsIsPlain(t *testing.T) {
	r := rand.New(rand.NewSource(42))
	var same, other, unplanned int
	all := smallModels()
	for range 4000 {
		all = append(all, named{"random", anyModel(r, 5)})
	}
	for _, n := range all {
		tensors := tensorsOf(t, n.name, n.m, declared(r, n.m))
		for i, o := range n.m.Ops {
			q := over(n.m, i+1, anyPlans(r, n.m, i+1), tensors)
			made, track, f := q.ask()
			if f != (api.Fault{}) {
				t.Fatalf("%s: op %d: %v", n.name, i+1, f)
			}
			equal := slices.Equal(made, tensors[i+1])
			if track.Wraps == 0 && !equal {
				t.Errorf("%s: op %d: %v; layer 11: %v\n%+v", n.name, i+1, made, tensors[i+1], q)
			}
			switch {
			case track.Wraps != 0 && !equal:
				other++
			case track.Adds16 != 0 && track.Wraps == 0:
				same++
				unplanned += unheld(n.m, i+1, o, q.plans)
			}
		}
	}
	if same < 1000 || other < 500 || unplanned < 100 {
		t.Errorf("%d without wraps, of which %d without a plan that holds; %d that differ", same, unplanned, other)
	}
}

// unheld is 1 where some depth isn't safe, whatever is read, and else 0.
func unheld(m api.Model, op int, o api.Op, plans []api.Chan) int {
	for i, p := range plans {
		if p.Width == 16 {
			if safe, _ := depth.Safe(m, op, i+1, span(-128, 127), p.Depth); !safe {
				return 1
			}
		}
	}
	return 0
}

// P21.3: each op by itself, of numbers beyond what its model declares: layer 11
// is asked of a model that has no other op.
func TestWithoutWrapsIsPlainAlone(t *testing.T) {
	r := rand.New(rand.NewSource(43))
	for range 6000 {
		m := anyModel(r, 4)
		for i, o := range m.Ops {
			q := askedOf(r, m, i+1, anyPlans(r, m, i+1))
			o.A, o.B = 0, 0
			if o.Kind == api.Add {
				q.b = q.a
			}
			want, f := plain.Eval(star(secondShape(m, m.Ops[i].A), o), q.a)
			if f != (api.Fault{}) {
				t.Fatalf("layer 11: %v", f)
			}
			if made, track, _ := q.ask(); track.Wraps == 0 && !slices.Equal(made, want) {
				t.Errorf("op %d: %v; layer 11: %v\n%+v", i+1, made, want, q)
			}
		}
	}
}

// claiming is the plan of that width and depth that claims no more than it must,
// over numbers of that span.
func claiming(m api.Model, op, ch int, s api.Span, width, k int) api.Chan {
	part, _ := bound.Run(m, op, ch, s)
	if width == 16 {
		part, _ = bound.Part(m, op, ch, s, k)
	}
	total, _ := bound.Total(m, op, ch, s)
	return api.Chan{Width: width, Depth: k, Part: part, Total: total}
}

// otherPlan holds over that span, if one does: often it is wider, or of a lesser
// depth, than it need be, and claims more.
func otherPlan(r *rand.Rand, m api.Model, op, ch int, s api.Span) api.Chan {
	length, _ := terms.Length(m, op)
	p := claiming(m, op, ch, s, 32, length)
	if k := 1 + r.Intn(length); r.Intn(3) > 0 {
		if safe, _ := depth.Safe(m, op, ch, s, k); safe {
			p = claiming(m, op, ch, s, 16, k)
		}
	}
	if p.Width == 16 && r.Intn(2) == 0 {
		p.Part = span(p.Part.Lo-r.Int63n(p.Part.Lo+32769), p.Part.Hi+r.Int63n(32768-p.Part.Hi))
	}
	return p
}

// widened is a span of values that holds s.
func widened(r *rand.Rand, s api.Span) api.Span {
	return anyOf(r, s, s, span(max(-128, s.Lo-1), s.Hi), span(s.Lo, min(127, s.Hi+1)), span(-128, 127), span(s.Lo-r.Int63n(s.Lo+129), s.Hi+r.Int63n(128-s.Hi)))
}

// otherCert is a certificate with wider ranges, wider registers and lesser depths
// than need be, or with some of these.
func otherCert(r *rand.Rand, m api.Model) api.Cert {
	wider := func(s api.Span) api.Span { return s }
	if r.Intn(2) == 0 {
		wider = func(s api.Span) api.Span { return widened(r, s) }
	}
	c := api.Cert{Ranges: []api.Span{wider(span(int64(m.Lo), int64(m.Hi)))}}
	for i, o := range m.Ops {
		var plans []api.Chan
		for k := range secondChannels(m, i+1) {
			plans = append(plans, otherPlan(r, m, i+1, k+1, c.Ranges[o.A]))
		}
		c.Plans = append(c.Plans, plans)
		comes, _ := flow.Out(m, i+1, c.Ranges)
		c.Ranges = append(c.Ranges, wider(comes))
	}
	return c
}

// inputs are numbers of the declared range: all at one end, at both in turn, any,
// and such that drive a sum of an op that reads the input to its ends.
func inputs(r *rand.Rand, m api.Model) [][]int8 {
	n, lo, hi := placesOf(m.In), int8(m.Lo), int8(m.Hi)
	turns := slices.Repeat([]int8{lo, hi}, n)
	all := [][]int8{slices.Repeat([]int8{lo}, n), slices.Repeat([]int8{hi}, n), turns[:n], turns[1 : n+1], declared(r, m)}
	for _, op := range reducing(m) {
		if m.Ops[op-1].A == 0 {
			ch := 1 + r.Intn(secondChannels(m, op))
			all = append(all, driven(r, m, op, ch, true), driven(r, m, op, ch, false))
		}
	}
	return all
}

// driven are numbers of the declared range that bring a channel's sum at some
// position furthest up, or furthest down.
func driven(r *rand.Rand, m api.Model, op, ch int, up bool) []int8 {
	x := declared(r, m)
	positions, _ := terms.Positions(m, op)
	row, _, _ := terms.Of(m, op, ch, r.Intn(positions))
	for _, term := range row {
		if term.At < 0 {
			continue
		}
		x[term.At] = int8(m.Lo)
		if up == (term.W > 0) {
			x[term.At] = int8(m.Hi)
		}
	}
	return x
}

// partsOf is the hull of the Parts of the channels that are 16 wide, and whether
// there are any.
func partsOf(plans []api.Chan) (api.Span, bool) {
	var all []int64
	for _, p := range plans {
		if p.Width == 16 {
			all = append(all, p.Part.Lo, p.Part.Hi)
		}
	}
	if len(all) == 0 {
		return api.Span{}, false
	}
	return span(slices.Min(all), slices.Max(all)), true
}

// holdCertified holds P21.4 for an input of a model, by a certificate that holds:
// the tensors are those that this layer made ahead.
func holdCertified(t *testing.T, name string, m api.Model, c api.Cert, x []int8) {
	t.Helper()
	want := tensorsOf(t, name, m, x)
	tensors := [][]int8{x}
	var all api.Track
	for i := range m.Ops {
		// Of a kind that reads no B it is 0, which names a tensor, too.
		made, track, f := over(m, i+1, c.Plans[i], tensors).ask()
		if f != (api.Fault{}) || track.Wraps != 0 || !slices.Equal(made, want[i+1]) {
			t.Fatalf("%s: op %d: %v %+v %v; layer 11: %v\n%+v\n%+v", name, i+1, made, track, f, want[i+1], m, c)
		}
		if part, some := partsOf(c.Plans[i]); some && !(has(part, int64(track.Low16)) && has(part, int64(track.High16))) {
			t.Errorf("%s: op %d: %+v; the Parts are %v", name, i+1, track, part)
		} else if !some && (track.Low16 != 0 || track.High16 != 0 || track.Adds16 != 0) {
			t.Errorf("%s: op %d: %+v, and no channel is 16 wide", name, i+1, track)
		}
		tensors = append(tensors, made)
		all = api.Track{Muls16: all.Muls16 + track.Muls16, Adds16: all.Adds16 + track.Adds16, Muls32: all.Muls32 + track.Muls32, Adds32: all.Adds32 + track.Adds32}
	}
	if cost, f := cert.Cost(m, c); f != (api.Fault{}) || cost != all {
		t.Errorf("%s: %+v were made; the cost is %+v %v", name, all, cost, f)
	}
}

// P21.4, P2: planned certificates, and others that hold, over inputs at the ends
// of the declared range and others.
func TestCertified(t *testing.T) {
	r := rand.New(rand.NewSource(44))
	all := smallModels()
	for range 700 {
		all = append(all, named{"random", anyModel(r, 4)})
	}
	best, others := 0, 0
	for _, n := range all {
		planned, f := plan.Plan(n.m)
		if f != (api.Fault{}) {
			continue
		}
		best++
		certs := []api.Cert{planned}
		for range 3 {
			if c := otherCert(r, n.m); check.Check(n.m, c) == (api.Fault{}) {
				others++
				certs = append(certs, c)
			}
		}
		for _, c := range certs {
			for _, x := range inputs(r, n.m) {
				holdCertified(t, n.name, n.m, c, x)
			}
		}
	}
	if best < 500 || others < 1000 {
		t.Errorf("%d planned, %d others", best, others)
	}
}

// P21.4: models at the limits, planned.
func TestCertifiedGreat(t *testing.T) {
	r := rand.New(rand.NewSource(45))
	for _, n := range greatModels() {
		if n.name == "131072 weights" {
			continue // its planning takes long
		}
		c, f := plan.Plan(n.m)
		if f != (api.Fault{}) {
			t.Fatalf("%s: %v", n.name, f)
		}
		holdCertified(t, n.name, n.m, c, slices.Repeat([]int8{int8(n.m.Lo)}, placesOf(n.m.In)))
		holdCertified(t, n.name, n.m, c, declared(r, n.m))
	}
}

// P21.4: registers that are borne up to their very ends, and that wrap with one
// step more.
func TestCertifiedUpToTheEnds(t *testing.T) {
	const most, least = math.MaxInt32, math.MinInt32
	ends16 := func(low, high int) api.Track { return api.Track{Low16: low, High16: high} }
	ends32 := func(low, high int) api.Track { return api.Track{Low32: low, High32: high} }
	for _, e := range []struct {
		m, more api.Model
		x       int8
		want    api.Track
	}{
		{declaring(0, 7, row(0, 4681)), row(0, 4682), 7, ends16(32767, 32767)},
		{declaring(-128, 0, row(0, 256)), row(0, 257), -128, ends16(-32768, -32768)},
		{declaring(0, 7, row(0, 4680, 1)), row(0, 4680, 2), 7, ends16(32760, 32767)},
		{declaring(-128, 0, row(0, 255, 1)), row(0, 255, 2), -128, ends16(-32768, -32640)},
		{declaring(0, 127, row(most-127, 1)), row(most-126, 1), 127, ends32(most, most)},
		{declaring(-128, 0, row(least+128, 1)), row(least+127, 1), -128, ends32(least, least)},
		{declaring(0, 127, row(most-38100, 300)), row(most-38099, 300), 127, ends32(most, most)},
		{declaring(-128, 0, row(least+38400, 300)), row(least+38399, 300), -128, ends32(least, least)},
	} {
		c, f := plan.Plan(e.m)
		if f != (api.Fault{}) {
			t.Fatalf("%+v: %v", e.m, f)
		}
		q := one(e.m, slices.Repeat([]int8{e.x}, e.m.In.C), c.Plans[0]...)
		holdCertified(t, "up to the ends", e.m, c, q.a)
		if _, did, _ := q.ask(); ends16(did.Low16, did.High16) != e.want && ends32(did.Low32, did.High32) != e.want {
			t.Errorf("%v: %+v; want %+v", c, did, e.want)
		}
		q.m = e.more
		if _, did, _ := hold(t, "one step more", q); did.Wraps != 1 {
			t.Errorf("%+v: %+v", q, did)
		}
	}
}

// P21.4: a certificate that doesn't hold is asked for nothing: of the chapter's
// example 2 with a Depth of 2 the register wraps, and the call answers.
func TestNoCertificateIsAsked(t *testing.T) {
	m := declaring(0, 127, scaledBy(1, 9, row(0, 200, 200)))
	c, _ := plan.Plan(m)
	holdCertified(t, "planned", m, c, []int8{127, 127})
	c.Plans[0][0].Depth = 2
	if f := check.Check(m, c); f != (api.Fault{Err: api.ErrPart, Op: 1, Chan: 1}) {
		t.Errorf("%v", f)
	}
	if made, track, f := kern.Op(m, 1, c.Plans[0], []int8{127, 127}, nil); !slices.Equal(made, []int8{-29}) || track.Wraps != 1 || f != (api.Fault{}) {
		t.Errorf("%v %+v %v", made, track, f)
	}
}

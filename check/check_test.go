package check_test

import (
	"fmt"
	"math/rand"
	"slices"
	"testing"

	"spillway/api"
)

// P17.1: planned certificates hold: of ops of each kind, first, behind others,
// and reading a tensor that isn't the last.
func TestPlannedCertificatesHold(t *testing.T) {
	kinds := map[int]int{}
	for _, n := range smallModels() {
		expectCheck(t, n.name, n.m, plannedFor(t, n), api.Fault{})
		for _, op := range n.m.Ops {
			kinds[op.Kind]++
		}
	}
	for kind := api.Dense; kind <= api.Clamp; kind++ {
		if kinds[kind] < 4 {
			t.Errorf("kind %d: only %d ops", kind, kinds[kind])
		}
	}
}

// P17.1: at the limits planned certificates hold, too, and the last plan and the
// last range are gone through.
func TestGreatModels(t *testing.T) {
	for _, n := range greatModels() {
		c := plannedFor(t, n)
		expectCheck(t, n.name, n.m, c, api.Fault{})
		last := len(n.m.Ops)
		c.Ranges[last].Lo++
		expectCheck(t, n.name, n.m, c, api.Fault{Err: api.ErrClaim, Op: last})
		if all := places(n.m); len(all) > 0 {
			at := all[len(all)-1]
			at.of(c).Total.Hi--
			expectCheck(t, n.name, n.m, c, at.fault(api.ErrTotal))
			at.of(c).Part.Lo++
			expectCheck(t, n.name, n.m, c, at.fault(api.ErrPart))
		}
	}
}

// P17.1, fault 2: Ranges[0] at the ends of the declared range, one short of
// them, one beyond them, and apart from it.
func TestDeclaredRange(t *testing.T) {
	for _, n := range smallModels() {
		good := plannedFor(t, n)
		lo, hi := int64(n.m.Lo), int64(n.m.Hi)
		for _, s := range list(span(lo+1, hi), span(lo, hi-1), span(lo+1, hi-1), span(lo+1, 127), span(-128, hi-1), span(-128, lo-1), span(hi+1, 127), span(hi, hi), span(lo, lo)) {
			if s.Lo > s.Hi || s.Hi > 127 || s.Lo < -128 || s == span(lo, hi) {
				continue
			}
			c := turned(good, func(c *api.Cert) { c.Ranges[0] = s })
			expectCheck(t, fmt.Sprint(n.name, s), n.m, c, api.Fault{Err: api.ErrClaim})
		}
		for _, s := range list(span(lo-1, hi), span(lo, hi+1), span(lo, 127), span(-128, hi), span(-128, 127)) {
			if s.Hi > 127 || s.Lo < -128 {
				continue
			}
			c := turned(good, func(c *api.Cert) { c.Ranges[0] = s })
			expectCheck(t, fmt.Sprint(n.name, s), n.m, c, secondCheck(n.m, c))
		}
	}
}

// P17.1, fault 3: the range of each later tensor, one short of what comes of its
// op at either end; one wider it holds, as long as what leans on it does.
func TestRangesOfLaterTensors(t *testing.T) {
	for _, n := range smallModels() {
		good := plannedFor(t, n)
		for op := 1; op <= len(n.m.Ops); op++ {
			must := good.Ranges[op]
			for _, s := range list(moved(must, 1, 0), moved(must, 0, -1), moved(must, 1, -1), span(must.Lo+1, 127), span(-128, must.Hi-1)) {
				if s.Lo > s.Hi || s.Hi < -128 || s.Lo > 127 {
					continue
				}
				c := turned(good, func(c *api.Cert) { c.Ranges[op] = s })
				expectCheck(t, fmt.Sprint(n.name, op, s), n.m, c, api.Fault{Err: api.ErrClaim, Op: op})
			}
			for _, s := range list(moved(must, -1, 0), moved(must, 0, 1), span(-128, 127)) {
				if s.Lo < -128 || s.Hi > 127 {
					continue
				}
				c := turned(good, func(c *api.Cert) { c.Ranges[op] = s })
				want := secondCheck(n.m, c)
				expectCheck(t, fmt.Sprint(n.name, op, s), n.m, c, want)
				if want != (api.Fault{}) && want.Op <= op {
					t.Errorf("%s: a wider range of tensor %d is a fault of op %d", n.name, op, want.Op)
				}
				if op == len(n.m.Ops) {
					expectCheck(t, n.name+", the last tensor", n.m, c, api.Fault{})
				}
			}
		}
	}
}

// P17.1: of a model with a running sum that leaves 32 bits no certificate is
// taken, with whatever claims: the first channel that has one is told.
func TestNothingHoldsBeyond32Bits(t *testing.T) {
	r := rand.New(rand.NewSource(177))
	later := 0
	for range 3000 {
		m := anyModel(r, 5)
		exact, ok := planned(m)
		if ok {
			continue
		}
		want := secondCheck(m, exact)
		if want.Err != api.ErrWide {
			t.Fatalf("%v\n%+v", want, m)
		}
		if want.Op > 1 && want.Chan > 1 {
			later++
		}
		within := copied(exact)
		for _, at := range places(m) {
			p := at.of(within)
			p.Part, p.Total = register(p.Width), register(32)
		}
		expectCheck(t, "claims that are true", m, exact, want)
		expectCheck(t, "all there is", m, within, want)
		at := place{want.Op, want.Chan}
		at.of(within).Width = 32
		at.of(within).Depth = read(m, at.op, at.ch, span(0, 0)).length
		at.of(within).Part = register(32)
		expectCheck(t, "32 wide", m, within, want)
	}
	if later < 20 {
		t.Errorf("only %d later ops and channels were told", later)
	}
}

// turn is one claim turned, and the fault that comes of it.
type turn struct {
	fault api.Fault
	do    func(c *api.Cert)
}

// turns are one or more of each thing that a certificate claims, in the order
// in which the checker goes through them: plans, each with one of the errors,
// and ranges that are one short.
func turns(m api.Model, good api.Cert) []turn {
	var all []turn
	short := func(n int) {
		s := good.Ranges[n]
		if s.Lo < s.Hi {
			all = append(all, turn{api.Fault{Err: api.ErrClaim, Op: n}, func(c *api.Cert) { c.Ranges[n].Hi-- }})
		}
	}
	short(0)
	for op := 1; op <= len(m.Ops); op++ {
		for ch := range secondChannels(m, op) {
			at := place{op, ch + 1}
			all = append(all, turnsOfPlan(at, *at.of(good))...)
		}
		short(op)
	}
	return all
}

// turnsOfPlan are such with each error that Check can tell of a plan.
func turnsOfPlan(at place, p api.Chan) []turn {
	all := []turn{
		{at.fault(api.ErrWidth), func(c *api.Cert) { at.of(*c).Width = 8 }},
		{at.fault(api.ErrDepth), func(c *api.Cert) { at.of(*c).Depth = 0 }},
		{at.fault(api.ErrWide), func(c *api.Cert) { at.of(*c).Part.Hi = 1 << 40 }},
		{at.fault(api.ErrWide), func(c *api.Cert) { at.of(*c).Total.Lo = -1 << 40 }},
	}
	if p.Part.Lo < p.Part.Hi {
		all = append(all, turn{at.fault(api.ErrPart), func(c *api.Cert) { at.of(*c).Part.Lo = p.Part.Lo + 1 }})
	}
	if p.Total.Lo < p.Total.Hi {
		all = append(all, turn{at.fault(api.ErrTotal), func(c *api.Cert) { at.of(*c).Total.Hi = p.Total.Hi - 1 }})
	}
	return all
}

// P17.1: each claim turned alone is a fault; of two that are turned the first
// is told: a plan of the first or a later op and channel, beside another, beside
// the op's own range, and beside those of later ops.
func TestFaultsInOrder(t *testing.T) {
	r := rand.New(rand.NewSource(174))
	for _, n := range []named{{"every kind", everyKind()}, {"skipping", skipping()}, {"mixed widths", mixedWidths()}, {"adding", adding()}} {
		good := plannedFor(t, n)
		all := turns(n.m, good)
		for i, first := range all {
			expectCheck(t, n.name, n.m, turned(good, first.do), first.fault)
			later := slices.Clone(all[i+1:])
			r.Shuffle(len(later), func(a, b int) { later[a], later[b] = later[b], later[a] })
			for _, second := range later[:min(25, len(later))] {
				if second.fault.Op == first.fault.Op && second.fault.Chan == first.fault.Chan {
					continue // of one plan; chan_test.go goes through those
				}
				c := turned(good, func(c *api.Cert) { second.do(c); first.do(c) })
				expectCheck(t, fmt.Sprint(n.name, first.fault, second.fault), n.m, c, first.fault)
			}
			every := turned(good, func(c *api.Cert) {
				for _, one := range all[i:] {
					if one.fault.Op != first.fault.Op || one.fault.Chan != first.fault.Chan {
						one.do(c)
					}
				}
				first.do(c)
			})
			expectCheck(t, fmt.Sprint(n.name, first.fault, " and all behind"), n.m, every, first.fault)
		}
	}
}

// P17.1: a plan is asked over the range of the tensor that its op reads, be it
// the last one or not: what is claimed for other tensors is of no weight.
func TestRangesThatPlansAreOver(t *testing.T) {
	for _, n := range smallModels() {
		good := plannedFor(t, n)
		for tensor := range good.Ranges {
			reads := func(op api.Op) bool { return op.A == tensor || op.Kind == api.Add && op.B == tensor }
			c := turned(good, func(c *api.Cert) { c.Ranges[tensor] = span(-128, 127) })
			if !slices.ContainsFunc(n.m.Ops, reads) {
				expectCheck(t, n.name+", a tensor that no op reads", n.m, c, api.Fault{})
			}
			fault := secondCheck(n.m, c)
			expectCheck(t, n.name, n.m, c, fault)
			if fault != (api.Fault{}) && !reads(n.m.Ops[fault.Op-1]) {
				t.Errorf("%s: tensor %d is wider: %v", n.name, tensor, fault)
			}
		}
	}
}

// P17.1: the error of a plan is told with its op and channel, as Chan tells it
// over the range that is claimed, first those of the first op and channel.
func TestCheckTellsWhatChanTells(t *testing.T) {
	r := rand.New(rand.NewSource(175))
	counts := map[api.Errno]int{}
	for range 1500 {
		m := anyModel(r, 4)
		c, ok := anyHolding(r, m)
		if !ok || len(places(m)) == 0 {
			continue
		}
		at := anyOf(r, places(m)...)
		turnPlan(r, at.of(c))
		over := c.Ranges[m.Ops[at.op-1].A]
		e := secondChan(m, at.op, at.ch, over, *at.of(c))
		counts[e]++
		expectChan(t, "one plan", m, at.op, at.ch, over, *at.of(c), e)
		want := api.Fault{}
		if e != api.OK {
			want = at.fault(e)
		}
		expectCheck(t, "one plan", m, c, want)
	}
	for _, e := range append(errorsInOrder(), api.OK) {
		if counts[e] < 40 {
			t.Errorf("error %d came up %d times only", int(e), counts[e])
		}
	}
}

// P17.1, P1: whatever is handed in, Check ends, doesn't panic, and answers what
// the second reading answers: certificates that hold, with one claim turned or
// a few, and models that are disturbed.
func TestCheckOfAnything(t *testing.T) {
	r := rand.New(rand.NewSource(176))
	counts := map[api.Errno]int{}
	for range 8000 {
		m := anyModel(r, 5)
		c, _ := anyHolding(r, m)
		for range anyOf(r, 0, 1, 1, 1, 1, 1, 2, 3) {
			turnCert(r, &c)
		}
		if r.Intn(8) == 0 {
			disturb(r, &m)
		}
		want := secondCheck(m, c)
		counts[want.Err]++
		expectCheck(t, "anything", m, c, want)
		if t.Failed() {
			t.Fatalf("%+v\n%+v", m, c)
		}
	}
	for _, e := range []api.Errno{api.OK, api.ErrLens, api.ErrSpan, api.ErrWidth, api.ErrDepth, api.ErrWide, api.ErrPart, api.ErrTotal, api.ErrClaim} {
		if counts[e] < 60 {
			t.Errorf("error %d came up %d times only", int(e), counts[e])
		}
	}
}

// turnSpan moves one end of a span, mostly by little.
func turnSpan(r *rand.Rand, s *api.Span) {
	end := anyOf(r, &s.Lo, &s.Hi)
	*end += anyOf[int64](r, -1, 1, -1, 1, 2, -2, int64(r.Intn(100)-50), int64(r.Intn(100000)-50000))
	if r.Intn(8) == 0 {
		*end = anyOf(r, ends()...)
	}
}

// turnPlan turns one claim of a plan.
func turnPlan(r *rand.Rand, p *api.Chan) {
	switch r.Intn(10) {
	case 0:
		p.Width = 48 - p.Width
	case 1:
		p.Width = anyOf(r, widthsThatAreNone()...)
	case 2, 3:
		p.Depth = anyOf(r, p.Depth-1, p.Depth+1, p.Depth*2, 1, r.Intn(20), anyOf(r, farNumbers()...))
	case 4, 5, 6:
		turnSpan(r, &p.Part)
	default:
		turnSpan(r, &p.Total)
	}
}

// turnCert turns one thing of a certificate.
func turnCert(r *rand.Rand, c *api.Cert) {
	op := r.Intn(len(c.Plans) + 1)
	switch kind := r.Intn(16); {
	case kind == 0:
		c.Ranges = c.Ranges[:r.Intn(len(c.Ranges)+1)]
	case kind == 1 && op < len(c.Plans):
		c.Plans[op] = append(c.Plans[op], api.Chan{})
	case kind < 7 && len(c.Ranges) > 0:
		turnSpan(r, &c.Ranges[r.Intn(len(c.Ranges))])
	case op < len(c.Plans) && len(c.Plans[op]) > 0:
		turnPlan(r, &c.Plans[op][r.Intn(len(c.Plans[op]))])
	}
}

package check_test

import (
	"fmt"
	"math"
	"slices"
	"testing"

	"spillway/api"
	"spillway/check"
	"spillway/model"
)

// anyPlans are such as hold somewhere, and such with each error: none of them
// comes ahead of what rules 3 to 5 say.
func anyPlans() []api.Chan {
	return []api.Chan{
		{}, narrow(2, span(-20, 30), span(-19, 31)), narrow(1, register(16), register(32)), wide(2, register(32), register(32)),
		narrow(1, span(1, 0), span(1, 0)), {Width: 8, Depth: 1}, narrow(0, span(0, 0), span(0, 0)), narrow(math.MaxInt, span(0, 0), span(0, 0)),
		narrow(1, span(-40000, 40000), span(0, 0)), narrow(1, span(0, 0), span(0, 0)), {Width: math.MinInt, Depth: math.MinInt},
	}
}

// rightAndWrong are spans of values and others.
func rightAndWrong() []api.Span {
	return list(span(0, 10), span(-128, 127), span(5, 4), span(5, 200), span(math.MinInt64, math.MaxInt64))
}

func expectError(t *testing.T, name string, m api.Model, op, ch int, s api.Span, want api.Errno) {
	t.Helper()
	for _, p := range anyPlans() {
		expectChan(t, name, m, op, ch, s, p, want)
	}
}

// Rule 3: a model that isn't well-formed is told first, by both calls, whatever
// is handed in beside it.
func TestFaultOfModelComesFirst(t *testing.T) {
	good, _ := planned(base())
	certs := []api.Cert{
		{}, good, exampleCert(),
		turned(good, func(c *api.Cert) { c.Ranges = nil }),
		turned(good, func(c *api.Cert) { c.Ranges[0] = span(1, 0) }),
		turned(good, func(c *api.Cert) { c.Ranges[0] = span(1, 2) }),
		turned(good, func(c *api.Cert) { c.Plans[0] = nil }),
		turned(good, func(c *api.Cert) { c.Plans[0][0].Part = span(1, 0) }),
		turned(good, func(c *api.Cert) { c.Plans[0][0].Width, c.Plans[0][1].Depth = 7, 0 }),
		{Ranges: make([]api.Span, 66), Plans: make([][]api.Chan, 65)},
	}
	told := map[api.Errno]bool{}
	for _, b := range brokenModels() {
		m := b.model()
		if f := model.Check(m); f != b.fault {
			t.Fatalf("%s: the model's fault is %v; want %v", b.name, f, b.fault)
		}
		told[b.fault.Err] = true
		for _, c := range certs {
			expectCheck(t, b.name, m, c, b.fault)
		}
		for _, op := range append(farNumbers(), 0, 1, 2, 3, 4) {
			for _, ch := range []int{math.MinInt, -1, 0, 1, 2, 3, math.MaxInt} {
				expectError(t, b.name, m, op, ch, span(0, 10), b.fault.Err)
				expectError(t, b.name, m, op, ch, span(5, 200), b.fault.Err)
			}
		}
	}
	if len(told) != 13 {
		t.Errorf("%d errors of chapter 8 told; want 13", len(told))
	}
}

// P1: models of nothing, and of numbers as great as an int goes.
func TestModelsOfNothing(t *testing.T) {
	for _, m := range []api.Model{{}, {Ops: []api.Op{{}}}, {Ops: make([]api.Op, 1000)}, {In: of(math.MaxInt, math.MaxInt, math.MaxInt), Lo: math.MinInt, Hi: math.MaxInt, Out: math.MaxInt}} {
		for _, c := range []api.Cert{{}, exampleCert(), {Ranges: make([]api.Span, len(m.Ops)+1), Plans: make([][]api.Chan, len(m.Ops))}} {
			expectCheck(t, "nothing", m, c, api.Fault{Err: api.ErrShape})
		}
		for _, number := range append(farNumbers(), 0, 1) {
			expectError(t, "nothing", m, number, 1, span(0, 1), api.ErrShape)
			expectError(t, "nothing", m, 1, number, span(0, 1), api.ErrShape)
		}
	}
}

// Rule 4: numbers of ops at each end and beyond it, told ahead of channels and
// spans.
func TestOpsThatAreNone(t *testing.T) {
	in := of(4, 3, 2)
	for _, m := range []api.Model{star(in), star(in, oneOfEach()[0]), star(in, oneOfEach()[4]), star(in, oneOfEach()...), everyKind()} {
		for _, op := range append(farNumbers(), 0, len(m.Ops)+1, len(m.Ops)+2) {
			for _, ch := range append(farNumbers(), 0, 1, 2) {
				for _, s := range rightAndWrong() {
					expectError(t, "no such op", m, op, ch, s, api.ErrPlace)
				}
			}
		}
	}
}

// Rule 4, P17.2: an op that doesn't reduce is told ahead of a channel that it
// hasn't and of a span.
func TestOpsThatDoNotReduce(t *testing.T) {
	m := star(of(4, 3, 2), append(oneOfEach()[4:], oneOfEach()...)...)
	for op := 1; op <= len(m.Ops); op++ {
		if slices.Contains(reducing(m), op) {
			continue
		}
		for _, ch := range append(farNumbers(), 0, 1, 2, 3) {
			for _, s := range rightAndWrong() {
				expectError(t, "doesn't reduce", m, op, ch, s, api.ErrKind)
			}
		}
	}
}

// Rule 4: numbers of channels at each end and beyond it, told ahead of a span;
// the channels of the tensor that the op makes count.
func TestChannelsThatAreNone(t *testing.T) {
	for _, m := range []api.Model{star(of(4, 3, 2), oneOfEach()...), skipping(), mixedWidths(), everyKind()} {
		for _, op := range reducing(m) {
			last := secondChannels(m, op)
			for _, ch := range append(farNumbers(), 0, last+1, last+2) {
				for _, s := range rightAndWrong() {
					expectError(t, "no such channel", m, op, ch, s, api.ErrPlace)
				}
			}
			for _, ch := range []int{1, last} {
				r := read(m, op, ch, span(-5, 6))
				expectChan(t, "a channel", m, op, ch, span(-5, 6), r.best(), api.OK)
				expectChan(t, "a channel", m, op, ch, span(-5, 6), wide(r.length, r.run(), r.total()), api.OK)
			}
		}
	}
}

// Rule 5: what is no span of values, of each kind that reduces, is told ahead
// of all that a plan has.
func TestSpansThatAreNone(t *testing.T) {
	in := of(4, 3, 2)
	m := star(in, append(oneOfEach()[:4], conv(in, 1, kernel(1, 1, 1, 1)), depthwise(in, kernel(1, 1, 1, 1)))...)
	for _, op := range reducing(m) {
		for ch := 1; ch <= secondChannels(m, op); ch++ {
			for _, s := range noneOfValues() {
				expectError(t, "no span of values", m, op, ch, s, api.ErrSpan)
			}
			for _, s := range spansOfValues() {
				for _, p := range read(m, op, ch, s).plansOf() {
					holdPlan(t, "a span of values", m, op, ch, s, p)
				}
				for _, p := range anyPlans() {
					holdPlan(t, "a span of values", m, op, ch, s, p)
				}
			}
		}
	}
}

// P17.1: faults of the form come ahead of all that is claimed: here nothing
// that is claimed holds.
func TestFormComesFirst(t *testing.T) {
	for _, n := range smallModels() {
		c := plannedFor(t, n)
		c.Ranges[0] = span(127, 127)
		if n.m.Hi == 127 {
			c.Ranges[0] = span(-128, -128)
		}
		for i := range c.Plans {
			c.Ranges[i+1] = span(-128, -128)
			for k := range c.Plans[i] {
				c.Plans[i][k].Width, c.Plans[i][k].Depth = 7, 0
			}
		}
		expectCheck(t, n.name, n.m, c, api.Fault{Err: api.ErrClaim})
		holdForms(t, n.name, n.m, c)
		holdForms(t, n.name, n.m, plannedFor(t, n))
	}
}

// holdForms turns a certificate's form in every way.
func holdForms(t *testing.T, name string, m api.Model, c api.Cert) {
	t.Helper()
	expect := func(want api.Fault, do func(c *api.Cert)) {
		t.Helper()
		expectCheck(t, name, m, turned(c, do), want)
	}
	lens := api.Fault{Err: api.ErrLens}
	expect(lens, func(c *api.Cert) { *c = api.Cert{} })
	expect(lens, func(c *api.Cert) { c.Ranges = nil })
	expect(lens, func(c *api.Cert) { c.Ranges = c.Ranges[1:] })
	expect(lens, func(c *api.Cert) { c.Ranges = append(c.Ranges, span(0, 0)) })
	expect(lens, func(c *api.Cert) { c.Plans = append(c.Plans, nil) })
	expect(lens, func(c *api.Cert) { c.Ranges, c.Plans = append(c.Ranges, span(1, 0)), append(c.Plans, nil) })
	if len(m.Ops) > 0 {
		expect(lens, func(c *api.Cert) { c.Plans = nil })
		expect(lens, func(c *api.Cert) { c.Plans = c.Plans[1:] })
		expect(lens, func(c *api.Cert) { c.Plans = c.Plans[:len(c.Plans)-1] })
	}
	for tensor := range len(m.Ops) + 1 {
		for _, s := range some(noneOfValues(), 9) {
			expect(api.Fault{Err: api.ErrSpan, Op: tensor}, func(c *api.Cert) { c.Ranges[tensor] = s })
		}
	}
	for op := 1; op <= len(m.Ops); op++ {
		fault := api.Fault{Err: api.ErrLens, Op: op}
		expect(fault, func(c *api.Cert) { c.Plans[op-1] = append(c.Plans[op-1], narrow(1, register(16), register(32))) })
		if secondChannels(m, op) > 0 {
			expect(fault, func(c *api.Cert) { c.Plans[op-1] = nil })
			expect(fault, func(c *api.Cert) { c.Plans[op-1] = c.Plans[op-1][1:] })
		}
	}
	for _, at := range some(places(m), 12) {
		for _, s := range some(noSpans(), 5) {
			expect(at.fault(api.ErrSpan), func(c *api.Cert) { at.of(*c).Part = s })
			expect(at.fault(api.ErrSpan), func(c *api.Cert) { at.of(*c).Total = s })
		}
	}
}

// P17.1: the first fault of the form is told, of several.
func TestFormInOrder(t *testing.T) {
	m := everyKind()
	good, _ := planned(m)
	var faults []func(c *api.Cert)
	var want []api.Fault
	for tensor := range len(m.Ops) + 1 {
		faults = append(faults, func(c *api.Cert) { c.Ranges[tensor] = span(0, 128) })
		want = append(want, api.Fault{Err: api.ErrSpan, Op: tensor})
	}
	for op := 1; op <= len(m.Ops); op++ {
		faults = append(faults, func(c *api.Cert) { c.Plans[op-1] = append(c.Plans[op-1], api.Chan{}) })
		want = append(want, api.Fault{Err: api.ErrLens, Op: op})
		for k := range good.Plans[op-1] {
			faults = append(faults, func(c *api.Cert) { c.Plans[op-1][k].Total = span(1, 0) })
			want = append(want, api.Fault{Err: api.ErrSpan, Op: op, Chan: k + 1})
		}
	}
	for i := range faults {
		for j := i; j < len(faults); j++ {
			c := turned(good, func(c *api.Cert) { faults[i](c); faults[j](c) })
			expectCheck(t, fmt.Sprint(want[i], want[j]), m, c, want[i])
		}
	}
}

// P1: both calls end at once where a certificate is for another model.
func TestCertificatesOfOthers(t *testing.T) {
	for _, a := range smallModels() {
		for _, b := range smallModels() {
			c := plannedFor(t, b)
			want := secondCheck(a.m, c)
			expectCheck(t, a.name+", "+b.name, a.m, c, want)
			for _, at := range some(places(b.m), 3) {
				p, s := *at.of(c), c.Ranges[b.m.Ops[at.op-1].A]
				if got := check.Chan(a.m, at.op, at.ch, s, p); got != secondChan(a.m, at.op, at.ch, s, p) {
					t.Errorf("%s, %s: Chan %v: %d", a.name, b.name, at, int(got))
				}
			}
		}
	}
}

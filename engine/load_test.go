package engine_test

import (
	"bytes"
	"math"
	"math/rand"
	"slices"
	"strconv"
	"testing"

	"spillway/api"
	"spillway/check"
	"spillway/engine"
	"spillway/model"
	"spillway/pack"
	"spillway/plan"
	"spillway/seal"
)

func fault(e api.Errno, at ...int) api.Fault {
	at = append(at, 0, 0)
	return api.Fault{Err: e, Op: at[0], Chan: at[1]}
}

// exampleBytes are those of chapter 9's example 1, with that declared range.
func exampleBytes(ends ...byte) []byte {
	head := append([]byte{0x53, 0x57, 0x4d, 0x31, 0x01, 0x01, 0x02}, ends...)
	return append(head, 0x01,
		0x01, 0x00, 0x00, 0x01,
		0x00, 0x00, 0x00, 0x00, 0x00, 0x00, 0x00, 0x00,
		0x02, 0x06, 0x03, 0x01, 0x02,
		0x01, 0x00, 0x00, 0x00,
		0x00, 0x00, 0xff, 0x01, 0xfe, 0x01,
		0x01)
}

// wideBytes declare -128 to 127, narrowBytes 0 to 10.
func wideBytes() []byte { return exampleBytes(0xff, 0x01, 0xfe, 0x01) }

func narrowBytes() []byte { return exampleBytes(0x00, 0x14) }

// narrowCert are the bytes of chapter 16's example 1.
func narrowCert() []byte {
	return []byte{0x53, 0x57, 0x43, 0x31, 0x02, 0x00, 0x14, 0x25, 0x3e, 0x01, 0x01, 0x10, 0x02, 0x27, 0x3c, 0x25, 0x3e}
}

// P22.1, P22.2: the chapter's example 1, and its example 2's faults.
func TestExamples(t *testing.T) {
	c, f := engine.Plan(wideBytes())
	if f != (api.Fault{}) {
		t.Fatalf("%v", f)
	}
	s := loaded(t, "example 1", wideBytes(), c)
	if s.In() != of(1, 1, 2) || s.Out() != of(1, 1, 1) || s.Range() != span(-128, 127) {
		t.Errorf("%v %v %v", s.In(), s.Out(), s.Range())
	}
	expectRun(t, "example 1", s, []int8{10, 5}, []int8{21})
	expectRefused(t, "example 1", s, []int8{10}, api.ErrInput)
	expectTrace(t, "example 1", s, []int8{10, 5}, api.Track{Muls16: 2, Adds16: 2, Adds32: 1, Low16: 20, High16: 30, Low32: 21, High32: 21})

	if c, f := engine.Plan(narrowBytes()); f != (api.Fault{}) || !bytes.Equal(c, narrowCert()) {
		t.Errorf("Plan: %x %v", c, f)
	}
	expectFault(t, "for another declared range", wideBytes(), narrowCert(), fault(api.ErrClaim))
	for _, none := range [][]byte{nil, {}} {
		expectFault(t, "no bytes", none, narrowCert(), fault(api.ErrShort))
		expectFault(t, "no bytes at all", none, none, fault(api.ErrShort))
		expectFault(t, "a model and no bytes", narrowBytes(), none, fault(api.ErrShort))
	}
}

// P22.1: each front of a model's bytes: the op within which it ends is told.
func TestFrontsOfAModel(t *testing.T) {
	b := narrowBytes()
	for n := range b {
		want := fault(api.ErrShort)
		if n >= 10 && n < len(b)-1 {
			want.Op = 1
		}
		for _, c := range [][]byte{narrowCert(), nil, []byte("SWC2"), b} {
			expectFault(t, "the first "+strconv.Itoa(n), b[:n], c, want)
			expectFault(t, "the first "+strconv.Itoa(n)+" alone", slices.Clone(b[:n]), c, want)
		}
		if c, f := engine.Plan(b[:n]); f != want || len(c) != 0 {
			t.Errorf("the first %d: Plan: %x %v; want %v", n, c, f, want)
		}
	}
}

// P22.1: each front of a certificate's bytes: the list and the plan within which
// it ends are told.
func TestFrontsOfACertificate(t *testing.T) {
	b := narrowCert()
	for n := range b {
		want := fault(api.ErrShort)
		if n >= 10 {
			want.Op = 1
		}
		if n >= 11 {
			want.Chan = 1
		}
		for _, m := range [][]byte{narrowBytes(), wideBytes(), bytesOf(everyKind())} {
			expectFault(t, "the first "+strconv.Itoa(n), m, b[:n], want)
			expectFault(t, "the first "+strconv.Itoa(n)+" alone", m, slices.Clone(b[:n]), want)
		}
	}
}

// certified are a model's bytes and those of its planned certificate.
type certified struct {
	name string
	m, c []byte
}

// allCertified are those of the small models that fit.
func allCertified(t *testing.T) []certified {
	t.Helper()
	var all []certified
	for _, n := range smallModels() {
		all = append(all, certified{n.name, bytesOf(n.m), sealed(t, planned(t, n.name, n.m))})
	}
	return all
}

// P22.1: fronts of greater ones, and bytes behind them.
func TestFrontsAndTails(t *testing.T) {
	for _, k := range allCertified(t) {
		for n := range k.m {
			if f := hold(t, k.name, k.m[:n], k.c); f.Err != api.ErrShort {
				t.Errorf("%s: %d bytes of the model: %v", k.name, n, f)
			}
		}
		for n := range k.c {
			if f := hold(t, k.name, k.m, k.c[:n]); f.Err != api.ErrShort {
				t.Errorf("%s: %d bytes of the certificate: %v", k.name, n, f)
			}
		}
		for _, tail := range [][]byte{{0}, {1}, {0xff}, {0x53, 0x57}, k.m, k.c} {
			m, c := slices.Concat(k.m, tail), slices.Concat(k.c, tail)
			expectFault(t, k.name, m, k.c, fault(api.ErrTail))
			expectFault(t, k.name, k.m, c, fault(api.ErrTail))
			expectFault(t, k.name, m, c, fault(api.ErrTail))
			if c, f := engine.Plan(m); f != fault(api.ErrTail) || len(c) != 0 {
				t.Errorf("%s: Plan: %x %v", k.name, c, f)
			}
		}
	}
}

// P22.1: each byte of the example turned to each other one.
func TestTurnedBytesOfTheExample(t *testing.T) {
	told := map[api.Errno]int{}
	for at := range narrowBytes() {
		for to := range 256 {
			m := narrowBytes()
			m[at] = byte(to)
			told[hold(t, "a byte of the model", m, narrowCert()).Err]++
			holdPlan(t, "a byte of the model", m)
		}
	}
	for at := range narrowCert() {
		for to := range 256 {
			c := narrowCert()
			c[at] = byte(to)
			told[hold(t, "a byte of the certificate", narrowBytes(), c).Err]++
		}
	}
	for _, e := range []api.Errno{
		api.OK, api.ErrShort, api.ErrForm, api.ErrLong, api.ErrTail, api.ErrShape, api.ErrRange, api.ErrPlace, api.ErrKind, api.ErrEdge, api.ErrField, api.ErrLens,
		api.ErrScale, api.ErrSpan, api.ErrWidth, api.ErrDepth, api.ErrPart, api.ErrTotal, api.ErrClaim,
	} {
		if told[e] == 0 {
			t.Errorf("the error %d is never told", int(e))
		}
	}
}

// P22.1: bytes of greater ones turned, one of each.
func TestTurnedBytes(t *testing.T) {
	r := rand.New(rand.NewSource(221))
	told := map[api.Errno]int{}
	for _, k := range allCertified(t) {
		for range 400 {
			m, c := slices.Clone(k.m), slices.Clone(k.c)
			if r.Intn(2) == 0 {
				m[r.Intn(len(m))] ^= anyOf(r, 1, 2, 3, 0x7f, 0x80, 0xff, byte(1+r.Intn(255)))
			} else {
				c[r.Intn(len(c))] ^= anyOf(r, 1, 2, 3, 0x7f, 0x80, 0xff, byte(1+r.Intn(255)))
			}
			told[hold(t, k.name, m, c).Err]++
		}
	}
	if told[api.OK] < 500 || told[api.OK] > 12000 {
		t.Errorf("%v", told)
	}
}

// P22.1: of models that aren't well-formed layer 8's fault is told, as far as
// their bytes have the form, ahead of whatever the certificate's bytes are.
func TestModelsThatAreNotWellFormed(t *testing.T) {
	told := map[api.Errno]bool{}
	c := sealed(t, planned(t, "base", base()))
	for _, b := range brokenModels() {
		m := bytesOf(b.model())
		if _, f := pack.Decode(m); f == b.fault {
			told[f.Err] = true
		}
		f := hold(t, b.name, m, c)
		if f == (api.Fault{}) {
			t.Errorf("%s: it is taken", b.name)
		}
		for _, other := range [][]byte{nil, {0}, c[:len(c)-1], append(slices.Clone(c), 0), []byte("SWC1\xff")} {
			expectFault(t, b.name, m, other, f)
		}
		holdPlan(t, b.name, m)
	}
	// 65 ops have no bytes: their count is above its limit.
	if len(told) != 12 {
		t.Errorf("%d errors of chapter 8 told; want 12: %v", len(told), told)
	}
}

// P22.1: the first fault of several: the model's bytes ahead of the
// certificate's, and both ahead of what the checker says.
func TestFirstOfSeveralFaults(t *testing.T) {
	edge := narrowBytes()
	edge[11] = 1
	models := []struct {
		name  string
		b     []byte
		fault api.Fault
	}{
		{"cut short", narrowBytes()[:25], fault(api.ErrShort, 1)},
		{"another mark", []byte("SWC1"), fault(api.ErrForm)},
		{"a tail", append(narrowBytes(), 0), fault(api.ErrTail)},
		{"its own tensor", edge, fault(api.ErrEdge, 1)},
		{"nothing wrong", narrowBytes(), api.Fault{}},
	}
	certs := []struct {
		name  string
		b     []byte
		fault api.Fault
	}{
		{"cut short", narrowCert()[:13], fault(api.ErrShort, 1, 1)},
		{"another mark", []byte("SWM1"), fault(api.ErrForm)},
		{"too many ranges", []byte("SWC1\x42"), fault(api.ErrLong)},
		{"a tail, and a claim that doesn't hold", append(claimed(t, func(p *api.Chan) { p.Depth = 3 }), 0), fault(api.ErrTail)},
		{"no ranges", sealed(t, api.Cert{}), fault(api.ErrLens)},
		{"a claim that doesn't hold", claimed(t, func(p *api.Chan) { p.Depth = 3 }), fault(api.ErrDepth, 1, 1)},
	}
	for _, m := range models {
		for _, c := range certs {
			want := m.fault
			if want == (api.Fault{}) {
				want = c.fault
			}
			expectFault(t, m.name+"; "+c.name, m.b, c.b, want)
		}
	}
}

// claimed are the bytes of the example's certificate with its plan turned.
func claimed(t *testing.T, do func(p *api.Chan)) []byte {
	t.Helper()
	c, f := seal.Decode(narrowCert())
	if f != (api.Fault{}) {
		t.Fatal(f)
	}
	do(&c.Plans[0][0])
	return sealed(t, c)
}

// P22.1, P4: chapter 17's examples, through the bytes.
func TestClaimsOfTheExample(t *testing.T) {
	for _, e := range []struct {
		name string
		do   func(p *api.Chan)
		want api.Fault
	}{
		{"as it is", func(p *api.Chan) {}, api.Fault{}},
		{"Part -19", func(p *api.Chan) { p.Part.Lo = -19 }, fault(api.ErrPart, 1, 1)},
		{"Part 29", func(p *api.Chan) { p.Part.Hi = 29 }, fault(api.ErrPart, 1, 1)},
		{"Part 32768", func(p *api.Chan) { p.Part.Hi = 32768 }, fault(api.ErrWide, 1, 1)},
		{"Part 32767", func(p *api.Chan) { p.Part.Hi = 32767 }, api.Fault{}},
		{"Part -32768", func(p *api.Chan) { p.Part.Lo = -32768 }, api.Fault{}},
		{"Part -32769", func(p *api.Chan) { p.Part.Lo = -32769 }, fault(api.ErrWide, 1, 1)},
		{"Part isn't valid", func(p *api.Chan) { p.Part = span(1, 0) }, fault(api.ErrSpan, 1, 1)},
		{"Total 30", func(p *api.Chan) { p.Total.Hi = 30 }, fault(api.ErrTotal, 1, 1)},
		{"Total -18", func(p *api.Chan) { p.Total.Lo = -18 }, fault(api.ErrTotal, 1, 1)},
		{"Total as wide as can be", func(p *api.Chan) { p.Total = span(math.MinInt32, math.MaxInt32) }, api.Fault{}},
		{"Total wider than that", func(p *api.Chan) { p.Total = span(math.MinInt32, math.MaxInt32+1) }, fault(api.ErrWide, 1, 1)},
		{"Total isn't valid", func(p *api.Chan) { p.Total = span(31, -19) }, fault(api.ErrSpan, 1, 1)},
		{"Width 32", func(p *api.Chan) { p.Width = 32 }, fault(api.ErrPart, 1, 1)},
		{"Width 32, Part -19 to 31", func(p *api.Chan) { p.Width, p.Part = 32, span(-19, 31) }, api.Fault{}},
		{"Width 32, Depth 1", func(p *api.Chan) { p.Width, p.Depth, p.Part = 32, 1, span(-19, 31) }, fault(api.ErrDepth, 1, 1)},
		{"Width 17", func(p *api.Chan) { p.Width = 17 }, fault(api.ErrWidth, 1, 1)},
		{"Width 0", func(p *api.Chan) { p.Width = 0 }, fault(api.ErrWidth, 1, 1)},
		{"Depth 0", func(p *api.Chan) { p.Depth = 0 }, fault(api.ErrDepth, 1, 1)},
		{"Depth 1", func(p *api.Chan) { p.Depth = 1 }, api.Fault{}},
		{"Depth 3", func(p *api.Chan) { p.Depth = 3 }, fault(api.ErrDepth, 1, 1)},
	} {
		c := claimed(t, e.do)
		if e.want != (api.Fault{}) {
			expectFault(t, e.name, narrowBytes(), c, e.want)
			continue
		}
		s := loaded(t, e.name, narrowBytes(), c)
		expectRun(t, e.name, s, []int8{10, 5}, []int8{21})
		expectRun(t, e.name, s, []int8{0, 10}, []int8{-19})
	}
}

// P22.1, P4: certificates of other models, most of which have another form.
func TestCertificatesOfOtherModels(t *testing.T) {
	all := allCertified(t)
	told := map[api.Errno]int{}
	for _, a := range all {
		for _, b := range all {
			told[hold(t, a.name+", by that of "+b.name, a.m, b.c).Err]++
		}
	}
	if told[api.OK] < len(all) || told[api.ErrLens] < 100 || told[api.ErrClaim] < 10 {
		t.Errorf("%v", told)
	}
}

// P22.1, P4: planned certificates with one range made narrower: it is refused, at
// the tensor that has it.
func TestNarrowerRanges(t *testing.T) {
	for _, n := range smallModels() {
		c, m := planned(t, n.name, n.m), bytesOf(n.m)
		for tensor, s := range c.Ranges {
			for _, less := range []api.Span{span(s.Lo+1, s.Hi), span(s.Lo, s.Hi-1)} {
				want := fault(api.ErrClaim, tensor)
				if s.Lo == s.Hi {
					want.Err = api.ErrSpan
				}
				expectFault(t, n.name, m, sealed(t, turned(c, func(c *api.Cert) { c.Ranges[tensor] = less })), want)
			}
			for _, none := range []api.Span{span(-129, s.Hi), span(s.Lo, 128), span(1, 0)} {
				expectFault(t, n.name, m, sealed(t, turned(c, func(c *api.Cert) { c.Ranges[tensor] = none })), fault(api.ErrSpan, tensor))
			}
		}
	}
}

// P22.1, P4: planned certificates with one claim of a plan turned: it is refused,
// at the op and the channel that have it.
func TestTurnedClaims(t *testing.T) {
	for _, n := range smallModels() {
		c, m := planned(t, n.name, n.m), bytesOf(n.m)
		for _, at := range some(placesIn(c), 12) {
			p := *at.of(c)
			expect := func(e api.Errno, to api.Chan) {
				t.Helper()
				expectFault(t, n.name, m, sealed(t, turned(c, func(c *api.Cert) { *at.of(*c) = to })), at.fault(e))
			}
			with := func(part, total api.Span) api.Chan {
				return api.Chan{Width: p.Width, Depth: p.Depth, Part: part, Total: total}
			}
			if p.Part.Lo < p.Part.Hi {
				expect(api.ErrPart, with(span(p.Part.Lo+1, p.Part.Hi), p.Total))
				expect(api.ErrPart, with(span(p.Part.Lo, p.Part.Hi-1), p.Total))
			}
			if p.Total.Lo < p.Total.Hi {
				expect(api.ErrTotal, with(p.Part, span(p.Total.Lo+1, p.Total.Hi)))
				expect(api.ErrTotal, with(p.Part, span(p.Total.Lo, p.Total.Hi-1)))
			}
			expect(api.ErrSpan, with(span(p.Part.Hi+1, p.Part.Hi), p.Total))
			expect(api.ErrSpan, with(p.Part, span(p.Total.Hi+1, p.Total.Hi)))
			expect(api.ErrWide, with(span(p.Part.Lo, register(p.Width).Hi+1), p.Total))
			expect(api.ErrWide, with(p.Part, span(math.MinInt32-1, p.Total.Hi)))
			expect(api.ErrWidth, api.Chan{Width: 24, Depth: p.Depth, Part: p.Part, Total: p.Total})
			expect(api.ErrDepth, api.Chan{Width: p.Width, Part: p.Part, Total: p.Total})
			expect(api.ErrDepth, api.Chan{Width: p.Width, Depth: 513, Part: p.Part, Total: p.Total})
		}
	}
}

// P22.1: planned certificates turned at random, against the layers below.
func TestTurnedCertificates(t *testing.T) {
	r := rand.New(rand.NewSource(222))
	told := map[api.Errno]int{}
	for range 3000 {
		m := anyModel(r, 4)
		c := otherCert(r, m)
		for range 1 + r.Intn(2) {
			turnCert(r, &c)
		}
		told[hold(t, "turned", bytesOf(m), sealed(t, c)).Err]++
	}
	for _, e := range []api.Errno{api.OK, api.ErrSpan, api.ErrWidth, api.ErrDepth, api.ErrWide, api.ErrPart, api.ErrTotal, api.ErrClaim} {
		if told[e] < 20 {
			t.Errorf("the error %d is told %d times only", int(e), told[e])
		}
	}
}

// holdPlan holds Plan of these bytes to what the layers below say of them, and
// tells whether there is a certificate.
func holdPlan(t *testing.T, name string, m []byte) bool {
	t.Helper()
	read, want := pack.Decode(m)
	var best api.Cert
	if want == (api.Fault{}) {
		best, want = plan.Plan(read)
	}
	c, f := engine.Plan(m)
	if f != want {
		t.Errorf("%s: Plan: %v; want %v", name, f, want)
	}
	if want != (api.Fault{}) {
		if len(c) != 0 {
			t.Errorf("%s: Plan has a fault, and answers %x", name, c)
		}
		return false
	}
	if b, _ := seal.Encode(best); !bytes.Equal(c, b) {
		t.Errorf("%s: Plan: %x; want %x", name, c, b)
	}
	return true
}

// P22.2, P3: Plan of models of all sorts, and Load of what it answers.
func TestPlan(t *testing.T) {
	r := rand.New(rand.NewSource(223))
	all := smallModels()
	for _, n := range smallModels() {
		all = append(all, named{n.name + ", steeper", steeper(n.m, 9)})
	}
	for range 1500 {
		all = append(all, named{"random", anyModel(r, 5)})
	}
	fit, unfit := 0, 0
	for _, n := range all {
		m := bytesOf(n.m)
		if !holdPlan(t, n.name, m) {
			unfit++
			continue
		}
		fit++
		c, _ := engine.Plan(m)
		read, f := seal.Decode(c)
		if f != (api.Fault{}) || check.Check(n.m, read) != (api.Fault{}) {
			t.Errorf("%s: %v %v", n.name, read, f)
		}
		holdWhatItHas(t, n.name, loaded(t, n.name, m, c), n.m, read)
	}
	if fit < 500 || unfit < 50 {
		t.Errorf("%d fit, %d don't", fit, unfit)
	}
}

// tooWide is a model in which, of the ops and channels told, the running sums
// leave 32 bits.
func tooWide(at ...place) api.Model {
	in := of(1, 1, 2)
	m := star(in, clamp(), dense(in, 4), dense(in, 4), average(kernel(1, 1, 1, 1)), dense(in, 4))
	for i := range m.Ops {
		m.Ops[i].Bias = slices.Clone(m.Ops[i].Bias)
	}
	for i, p := range at {
		m.Ops[p.op-1].Bias[p.ch-1] = []int32{math.MaxInt32, math.MinInt32}[i%2]
	}
	return m
}

// P22.2, P3: models that don't fit: the first op, and its first channel, is told.
func TestPlanTellsTheFirstThatIsTooWide(t *testing.T) {
	for _, op := range []int{2, 3, 5} {
		for ch := 1; ch <= 4; ch++ {
			want := fault(api.ErrWide, op, ch)
			for _, m := range []api.Model{tooWide(place{op, ch}), tooWide(place{5, 4}, place{op, ch}), tooWide(place{op, ch}, place{op, 4}, place{5, 4})} {
				if c, f := engine.Plan(bytesOf(m)); f != want || len(c) != 0 {
					t.Errorf("%x %v; want %v", c, f, want)
				}
			}
		}
	}
	if !holdPlan(t, "none", bytesOf(tooWide())) {
		t.Error("none is too wide")
	}
	for _, c := range holding(rand.New(rand.NewSource(224)), tooWide(), 5) {
		expectFault(t, "by another's certificate", bytesOf(tooWide(place{3, 2})), sealed(t, c), fault(api.ErrWide, 3, 2))
	}
}

// P22.1, P22.2: models at the limits.
func TestGreatModels(t *testing.T) {
	for _, n := range greatModels() {
		if f := model.Check(n.m); f != (api.Fault{}) {
			t.Fatalf("%s: %v", n.name, f)
		}
		m := bytesOf(n.m)
		c, f := engine.Plan(m)
		if f != (api.Fault{}) {
			t.Fatalf("%s: %v", n.name, f)
		}
		read, f := seal.Decode(c)
		if f != (api.Fault{}) {
			t.Fatalf("%s: %v", n.name, f)
		}
		s := loaded(t, n.name, m, c)
		holdWhatItHas(t, n.name, s, n.m, read)
		holdRun(t, n.name, s, n.m, read, allOf(n.m, n.m.Lo, n.m.Hi, 3))
		expectFault(t, n.name, m[:len(m)-1], c, fault(api.ErrShort))
		if f := hold(t, n.name, m, c[:len(c)-1]); f.Err != api.ErrShort {
			t.Errorf("%s: %v", n.name, f)
		}
	}
}

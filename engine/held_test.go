package engine_test

import (
	"bytes"
	"math"
	"math/rand"
	"slices"
	"testing"

	"spillway/api"
	"spillway/engine"
	"spillway/pack"
	"spillway/seal"
)

// What follows are the ten examples of the whole that the document ends with.

func TestExampleOfTheWhole1(t *testing.T) {
	expectRun(t, "1", plannedSession(t, "1", row(1, 3, -2)), []int8{10, 5}, []int8{21})
}

// plannedPlan is the plan of the first channel of a model's first op, as Plan's
// bytes have it.
func plannedPlan(t *testing.T, m api.Model) api.Chan {
	t.Helper()
	b, f := engine.Plan(bytesOf(m))
	if f != (api.Fault{}) {
		t.Fatalf("%v", f)
	}
	c, f := seal.Decode(b)
	if f != (api.Fault{}) {
		t.Fatalf("%v", f)
	}
	return c.Plans[0][0]
}

func TestExamplesOfTheWhole2To4(t *testing.T) {
	for _, e := range []struct {
		m    api.Model
		want api.Chan
	}{
		{declaring(0, 10, row(1, 3, -2)), api.Chan{Width: 16, Depth: 2, Part: span(-20, 30), Total: span(-19, 31)}},
		{row(0, 300, 1), api.Chan{Width: 32, Depth: 2, Part: span(-38528, 38227), Total: span(-38528, 38227)}},
		{declaring(0, 127, row(0, 200, 200)), api.Chan{Width: 16, Depth: 1, Part: span(0, 25400), Total: span(0, 50800)}},
	} {
		if got := plannedPlan(t, e.m); got != e.want {
			t.Errorf("%v; want %v", got, e.want)
		}
	}
}

func TestExampleOfTheWhole5(t *testing.T) {
	far := slices.Repeat([]int16{math.MinInt16}, 512)
	if c, f := engine.Plan(bytesOf(row(0, far...))); f != fault(api.ErrWide, 1, 1) || len(c) != 0 {
		t.Errorf("%x %v", c, f)
	}
	m := scaledBy(1, 25, row(-1, far...))
	s := plannedSession(t, "5", m)
	x := slices.Repeat([]int8{-128}, 512)
	expectRun(t, "5", s, x, []int8{64})
	// -1 and 2^22 is what the register comes to first.
	expectTrace(t, "5", s, x, api.Track{Muls32: 512, Adds32: 512, Low32: 1<<22 - 1, High32: math.MaxInt32})
}

func TestExampleOfTheWhole6(t *testing.T) {
	m := star(of(2, 2, 1), api.Op{Kind: api.Average, Win: kernel(2, 2, 1, 1), Lo: -128, Hi: 127})
	s := plannedSession(t, "6", m)
	expectRun(t, "6", s, []int8{1, 2, 2, 2}, []int8{2})
	expectRun(t, "6", s, []int8{-1, -2, -2, -1}, []int8{-2})
}

func TestExamplesOfTheWhole7And8(t *testing.T) {
	m := declaring(0, 127, scaledBy(1, 9, row(0, 200, 200)))
	c := planned(t, "7", m)
	for _, e := range []struct {
		part api.Span
		want api.Errno
	}{{span(0, 25400), api.ErrPart}, {span(-32768, 32767), api.ErrPart}, {span(0, 50800), api.ErrWide}, {span(0, 32768), api.ErrWide}} {
		deeper := turned(c, func(c *api.Cert) { c.Plans[0][0].Depth, c.Plans[0][0].Part = 2, e.part })
		expectFault(t, "7", bytesOf(m), sealed(t, deeper), fault(e.want, 1, 1))
	}
	wider := turned(c, func(c *api.Cert) {
		c.Ranges[0], c.Ranges[1] = span(-1, 127), span(-128, 127)
		c.Plans[0][0].Part, c.Plans[0][0].Total = span(-300, 25400), span(-400, 50800)
	})
	x := []int8{127, 127}
	expectRun(t, "8", sessionOf(t, "8", m, c), x, []int8{99})
	expectRun(t, "8", sessionOf(t, "8", m, wider), x, []int8{99})
	expectRefused(t, "8", sessionOf(t, "8", m, wider), []int8{-1, 0}, api.ErrInput)
}

func TestExamplesOfTheWhole9And10(t *testing.T) {
	b, c := narrowBytes(), narrowCert()
	expectFault(t, "9", b[:len(b)-1], c, fault(api.ErrShort))
	expectFault(t, "9", append(narrowBytes(), 7), c, fault(api.ErrTail))
	b[11] = 1
	expectFault(t, "9", b, c, fault(api.ErrEdge, 1))
	s := loaded(t, "10", narrowBytes(), c)
	expectRefused(t, "10", s, []int8{11, 0}, api.ErrInput)
	expectRefused(t, "10", s, []int8{0, 11}, api.ErrInput)
}

// disturbBytes turns a few of the bytes, or leaves some out, or puts some in.
func disturbBytes(r *rand.Rand, b []byte) []byte {
	b = slices.Clone(b)
	for range 1 + r.Intn(3) {
		at := r.Intn(len(b) + 1)
		behind := min(len(b), at+1+r.Intn(3))
		switch r.Intn(4) {
		case 0:
			b = slices.Insert(b, at, byte(r.Intn(256)))
		case 1:
			b = slices.Delete(b, at, behind)
		default:
			for i := at; i < behind; i++ {
				b[i] = anyOf(r, b[i]+2, b[i]-2, b[i]^1, b[i]^0x80, byte(r.Intn(256)))
			}
		}
	}
	return b
}

// P1, P2, P4, P7: random models and certificates, bytes of which are disturbed,
// and random inputs: no call panics, Load and Plan answer what the layers below
// do; and what is taken has one form, and answers what layer 11 does.
func TestDisturbedBytes(t *testing.T) {
	r := rand.New(rand.NewSource(233))
	told := map[api.Errno]int{}
	for range 12000 {
		n := anyModel(r, 3)
		c := otherCert(r, n)
		m, claims := bytesOf(n), sealed(t, c)
		if r.Intn(3) > 0 {
			m = disturbBytes(r, m)
		}
		if r.Intn(3) == 0 {
			claims = disturbBytes(r, claims)
		}
		f := hold(t, "disturbed", m, claims)
		told[f.Err]++
		holdPlan(t, "disturbed", m)
		if f != (api.Fault{}) {
			continue
		}
		s := loaded(t, "disturbed", m, claims)
		again, _ := pack.Encode(s.Model())
		if !bytes.Equal(again, m) || !bytes.Equal(sealed(t, s.Cert()), claims) {
			t.Errorf("%x %x: not one form", m, claims)
		}
		holdRun(t, "disturbed", s, s.Model(), s.Cert(), declared(r, s.Model()))
	}
	for _, e := range []api.Errno{
		api.OK, api.ErrShort, api.ErrForm, api.ErrTail, api.ErrLong, api.ErrKind, api.ErrEdge, api.ErrField, api.ErrLens, api.ErrScale, api.ErrRange,
		api.ErrWindow, api.ErrPlace, api.ErrSpan, api.ErrDepth, api.ErrPart, api.ErrTotal, api.ErrClaim, api.ErrWide,
	} {
		if told[e] < 5 {
			t.Errorf("the error %d is told %d times only", int(e), told[e])
		}
	}
}

// P1: bytes of no sense at all, with and without a mark ahead.
func TestAnyBytes(t *testing.T) {
	r := rand.New(rand.NewSource(234))
	noise := func(mark string) []byte {
		b := []byte(anyOf(r, mark, mark, "", "SW"))
		for range r.Intn(60) {
			b = append(b, anyOf(r, 0, 1, 2, 0xff, 0x80, byte(r.Intn(256)), byte(r.Intn(9))))
		}
		return b
	}
	for range 30000 {
		m, c := anyOf(r, noise("SWM1"), noise("SWM1"), narrowBytes()), anyOf(r, noise("SWC1"), noise("SWC1"), narrowCert())
		hold(t, "noise", m, c)
		hold(t, "the other way round", c, m)
		holdPlan(t, "noise", m)
	}
}

// P1, P4: of random inputs those are taken that are of the length and of the
// declared range, and no others.
func TestAnyInputs(t *testing.T) {
	r := rand.New(rand.NewSource(235))
	taken, refused := 0, 0
	for range 3000 {
		m := declaring(-1-r.Intn(128), r.Intn(128), anyModel(r, 3))
		b, f := engine.Plan(bytesOf(m))
		if f != (api.Fault{}) {
			continue
		}
		s := loaded(t, "any", bytesOf(m), b)
		for range 4 {
			x := declared(r, m)
			fits := true
			switch r.Intn(4) {
			case 0:
				at := r.Intn(len(x))
				x[at] = int8(anyValue(r))
				fits = m.Lo <= int(x[at]) && int(x[at]) <= m.Hi
			case 1:
				x = append(x, declared(r, m)[:r.Intn(2)]...)
				x = x[:max(0, len(x)-r.Intn(2))]
				fits = len(x) == placesOf(m.In)
			}
			if fits {
				taken++
				holdRun(t, "any", s, m, s.Cert(), x)
			} else {
				refused++
				expectRefused(t, "any", s, x, api.ErrInput)
			}
		}
	}
	if taken < 3000 || refused < 1000 {
		t.Errorf("%d taken, %d refused", taken, refused)
	}
}

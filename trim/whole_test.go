package trim_test

import (
	"bytes"
	"math/rand"
	"slices"
	"testing"

	"spillway/api"
	"spillway/cert"
	"spillway/check"
	"spillway/engine"
	"spillway/pack"
	"spillway/plain"
	"spillway/plan"
	"spillway/seal"
)

// bytesOf are a well-formed model's bytes.
func bytesOf(t *testing.T, name string, m api.Model) []byte {
	t.Helper()
	b, f := pack.Encode(m)
	if f != (api.Fault{}) {
		t.Fatalf("%s: Encode: %v\n%+v", name, f, m)
	}
	return b
}

// P7: what is left, encoded and decoded, is what is left; and its bytes are no
// more than the whole model's.
func TestOneForm(t *testing.T) {
	r := rand.New(rand.NewSource(248))
	for _, n := range append(manyModels(r, 1200), greatWithOutputs()...) {
		less := trimmed(t, n.name, n.m)
		b := bytesOf(t, n.name, less)
		read, f := pack.Decode(b)
		if f != (api.Fault{}) || !same(read, less) {
			t.Errorf("%s: %+v %v is decoded; want %+v", n.name, read, f, less)
		}
		if again := bytesOf(t, n.name, read); !bytes.Equal(again, b) {
			t.Errorf("%s: two forms: %x, %x", n.name, b, again)
		}
		// A model that was decoded is trimmed as the one that was encoded.
		whole, _ := pack.Decode(bytesOf(t, n.name, n.m))
		expectTrim(t, n.name, whole, less)
		if len(b) > len(bytesOf(t, n.name, n.m)) {
			t.Errorf("%s: %d bytes", n.name, len(b))
		}
	}
}

// loaded is the session of a model, by what the planner writes for it, if it
// fits.
func loaded(t *testing.T, name string, m api.Model) (*engine.Session, api.Fault) {
	t.Helper()
	b := bytesOf(t, name, m)
	c, f := engine.Plan(b)
	if f != (api.Fault{}) {
		return nil, f
	}
	s, f := engine.Load(b, c)
	if f != (api.Fault{}) {
		t.Fatalf("%s: Load: %v", name, f)
	}
	return s, f
}

// holdRun: a session of what is left answers what layer 11 says of the whole
// model, and nothing wraps in it.
func holdRun(t *testing.T, name string, m api.Model, s *engine.Session, x []int8) {
	t.Helper()
	want, f := plain.Eval(m, x)
	if f != (api.Fault{}) {
		if out, e := s.Run(x); e != api.ErrInput || len(out) != 0 {
			t.Errorf("%s: Run(%v): %v %d; want the error %d", name, x, out, int(e), int(api.ErrInput))
		}
		return
	}
	if out, e := s.Run(x); e != api.OK || !slices.Equal(out, want) {
		t.Errorf("%s: Run(%v): %v %d; want %v", name, x, out, int(e), want)
	}
	tracks, e := s.Trace(x)
	if e != api.OK || len(tracks) != len(s.Model().Ops) {
		t.Fatalf("%s: Trace(%v): %v %d", name, x, tracks, int(e))
	}
	for i, track := range tracks {
		if track.Wraps != 0 {
			t.Errorf("%s: op %d: %+v", name, i+1, track)
		}
	}
}

// P2, P24.4: what is left, encoded, planned, loaded and run, answers as the whole
// model does, right inputs and wrong ones.
func TestRunOfWhatIsLeft(t *testing.T) {
	r := rand.New(rand.NewSource(249))
	runs, fitsNow := 0, 0
	for _, n := range append(manyModels(r, 800), greatWithOutputs()[:8]...) {
		less := trimmed(t, n.name, n.m)
		s, f := loaded(t, n.name, less)
		whole, g := loaded(t, n.name, n.m)
		if f != (api.Fault{}) {
			if g == (api.Fault{}) {
				t.Errorf("%s: %v, and the whole model fits", n.name, f)
			}
			continue
		}
		inputs := append(wrongInputs(r, n.m), numbersOf(r, n.m), numbersOf(r, n.m))
		for _, x := range inputs {
			holdRun(t, n.name, n.m, s, x)
			runs++
		}
		if g != (api.Fault{}) {
			fitsNow++
			continue
		}
		for _, x := range inputs {
			a, e := whole.Run(x)
			if b, o := s.Run(x); o != e || !slices.Equal(a, b) {
				t.Errorf("%s: Run(%v): %v %d; of the whole model %v %d", n.name, x, b, int(o), a, int(e))
			}
		}
		if s.In() != whole.In() || s.Out() != whole.Out() || s.Range() != whole.Range() || !same(s.Model(), less) {
			t.Errorf("%s: %v %v %v, and it was %v %v %v", n.name, s.In(), s.Out(), s.Range(), whole.In(), whole.Out(), whole.Range())
		}
	}
	if runs < 5000 || fitsNow < 20 {
		t.Errorf("%d runs; %d models fit now", runs, fitsNow)
	}
}

// holds: does a span hold another?
func holds(s, other api.Span) bool { return s.Lo <= other.Lo && other.Hi <= s.Hi }

// holdBest holds what is planned against another certificate that holds.
func holdBest(t *testing.T, name string, m api.Model, best, other api.Cert) {
	t.Helper()
	for tensor, s := range best.Ranges {
		if !holds(other.Ranges[tensor], s) {
			t.Errorf("%s: tensor %d: %v is planned, and %v holds", name, tensor, s, other.Ranges[tensor])
		}
	}
	for i, plans := range best.Plans {
		for k, p := range plans {
			o := other.Plans[i][k]
			if !holds(o.Total, p.Total) || o.Width == 16 && (p.Width != 16 || p.Depth < o.Depth) {
				t.Errorf("%s: op %d, channel %d: %v is planned, and %v holds", name, i+1, k+1, p, o)
			}
		}
	}
	a, _ := cert.Cost(m, best)
	b, _ := cert.Cost(m, other)
	if a.Muls32 > b.Muls32 || a.Adds32 > b.Adds32 {
		t.Errorf("%s: the cost is %+v, and another's %+v", name, a, b)
	}
}

// P2, P6: a certificate of the whole model that holds, holds for what is left of
// both, with wider ranges and lesser registers than the planned one; and what is
// planned for what is left is the best.
func TestCertificatesOfWhatIsLeft(t *testing.T) {
	r := rand.New(rand.NewSource(250))
	taken, others := 0, 0
	for _, n := range append(eachWithItsOutputs(), randomModels(r, 1200)...) {
		c := otherCert(r, n.m)
		if check.Check(n.m, c) != (api.Fault{}) {
			continue
		}
		taken++
		less := trimmed(t, n.name, n.m)
		left := onlyLive(liveOf(t, n.name, n.m), c)
		if f := check.Check(less, left); f != (api.Fault{}) {
			t.Fatalf("%s: %v: it holds for the whole model", n.name, f)
		}
		best, f := plan.Plan(less)
		if f != (api.Fault{}) {
			t.Fatalf("%s: %v, and a certificate holds", n.name, f)
		}
		holdBest(t, n.name, less, best, left)
		whole, _ := plan.Plan(n.m)
		holdCost(t, n.name, n.m, less, whole, best)
		if !cert.Same(best, left) {
			others++
		}
		b, _ := seal.Encode(left)
		s, f := engine.Load(bytesOf(t, n.name, less), b)
		if f != (api.Fault{}) {
			t.Fatalf("%s: Load: %v", n.name, f)
		}
		holdRun(t, n.name, n.m, s, numbersOf(r, n.m))
	}
	if taken < 800 || others < 400 {
		t.Errorf("%d hold, %d of them others than the planned one", taken, others)
	}
}

// holdCost: what is left costs no more than the whole model.
func holdCost(t *testing.T, name string, m, less api.Model, whole, best api.Cert) {
	t.Helper()
	a, f := cert.Cost(m, whole)
	b, g := cert.Cost(less, best)
	if f != (api.Fault{}) || g != (api.Fault{}) || b.Muls16 > a.Muls16 || b.Adds16 > a.Adds16 || b.Muls32 > a.Muls32 || b.Adds32 > a.Adds32 {
		t.Errorf("%s: the cost is %+v %v, and the whole model's %+v %v", name, b, g, a, f)
	}
}

func randomModels(r *rand.Rand, count int) []named {
	var all []named
	for range count {
		all = append(all, named{"random", anyModel(r, 7)})
	}
	return all
}

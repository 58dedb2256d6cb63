package engine_test

import (
	"math/rand"
	"reflect"
	"testing"

	"spillway/api"
	"spillway/cert"
	"spillway/engine"
	"spillway/model"
)

// from is the model with another output.
func from(tensor int, m api.Model) api.Model {
	m.Out = tensor
	return m
}

// P22.3: In and Out worked by hand, of each output that a model may have.
func TestShapes(t *testing.T) {
	for _, e := range []struct {
		name   string
		m      api.Model
		shapes []api.Shape
	}{
		{"skipping", skipping(), []api.Shape{of(3, 5, 2), of(1, 5, 4), of(1, 1, 3), of(2, 4, 2), of(1, 3, 4), of(1, 3, 1), of(1, 1, 2)}},
		{"every kind", everyKind(), []api.Shape{
			of(5, 4, 2), of(5, 4, 2), of(5, 4, 3), of(5, 4, 3), of(4, 3, 3), of(4, 3, 3), of(2, 3, 3), of(2, 2, 3), of(1, 1, 4), of(1, 1, 2),
		}},
		{"no ops", star(of(2, 3, 4)), []api.Shape{of(2, 3, 4)}},
	} {
		for tensor, shape := range e.shapes {
			s := plannedSession(t, e.name, from(tensor, e.m))
			if s.In() != e.shapes[0] || s.Out() != shape {
				t.Errorf("%s: In %v, Out %v; want %v, %v", e.name, s.In(), s.Out(), e.shapes[0], shape)
			}
			out, e := s.Run(allOf(e.m, e.m.Lo, e.m.Hi))
			if e != api.OK || len(out) != placesOf(shape) {
				t.Errorf("%d numbers, %d; want %d", len(out), int(e), placesOf(shape))
			}
		}
	}
}

// P22.3: what the bytes say, of models of all sorts, with each output.
func TestWhatWasDecoded(t *testing.T) {
	r := rand.New(rand.NewSource(225))
	all := smallModels()
	for range 400 {
		all = append(all, named{"random", anyModel(r, 5)})
	}
	certs := 0
	for _, n := range all {
		for _, c := range holding(r, n.m, 3) {
			certs++
			m := from(r.Intn(len(n.m.Ops)+1), n.m)
			holdWhatItHas(t, n.name, sessionOf(t, n.name, m, c), m, c)
		}
	}
	if certs < 800 {
		t.Errorf("only %d certificates", certs)
	}
	for _, n := range smallModels() {
		c := planned(t, n.name, n.m)
		for tensor := range len(n.m.Ops) + 1 {
			m := from(tensor, n.m)
			holdWhatItHas(t, n.name, sessionOf(t, n.name, m, c), m, c)
		}
	}
}

// P22.3: declared ranges, also such as are narrower than the certificate's.
func TestRange(t *testing.T) {
	m := everyKind()
	wide := planned(t, "every kind", declaring(-128, 127, m))
	for _, e := range []api.Span{span(-128, 127), span(0, 0), span(-128, -128), span(127, 127), span(-1, 1), span(3, 100), span(-90, -7)} {
		narrower := declaring(int(e.Lo), int(e.Hi), m)
		for _, c := range []api.Cert{wide, planned(t, "every kind", narrower)} {
			s := sessionOf(t, "every kind", narrower, c)
			if s.Range() != e || s.Cert().Ranges[0] != c.Ranges[0] {
				t.Errorf("Range %v, Ranges %v; want %v, %v", s.Range(), s.Cert().Ranges, e, c.Ranges)
			}
		}
	}
}

// P22.3: the model and the certificate are answered whole: what they answer is
// taken once more, and is the same session.
func TestLoadOfWhatASessionAnswers(t *testing.T) {
	for _, n := range smallModels() {
		first := plannedSession(t, n.name, n.m)
		second := sessionOf(t, n.name, first.Model(), first.Cert())
		if !reflect.DeepEqual(bare(first.Model()), bare(second.Model())) || !cert.Same(first.Cert(), second.Cert()) {
			t.Errorf("%s: %+v %+v", n.name, second.Model(), second.Cert())
		}
		x := allOf(n.m, n.m.Lo, n.m.Hi)
		want, _ := first.Run(x)
		expectRun(t, n.name, second, x, want)
	}
}

// inputsOf are lists of numbers, for sessions of which nothing is known.
func inputsOf() [][]int8 {
	return [][]int8{nil, {}, {0}, {1}, {-128}, {127}, {10, 5}, make([]int8, 100), make([]int8, 20000)}
}

// P22.6: a nil session.
func TestNilSession(t *testing.T) {
	var none *engine.Session
	if none.In() != (api.Shape{}) || none.Out() != (api.Shape{}) || none.Range() != (api.Span{}) {
		t.Errorf("%v %v %v", none.In(), none.Out(), none.Range())
	}
	if m := none.Model(); !reflect.DeepEqual(bare(m), api.Model{}) {
		t.Errorf("%+v", m)
	}
	if c := none.Cert(); !cert.Same(c, api.Cert{}) {
		t.Errorf("%+v", c)
	}
	for _, x := range inputsOf() {
		expectRefused(t, "nil", none, x, api.ErrNil)
	}
	refused, _ := engine.Load(nil, nil)
	expectRefused(t, "what Load answers beside a fault", refused, []int8{10, 5}, api.ErrNil)
}

// Rule 9, P1: of a session that Load didn't make nothing is promised but that the
// calls end.
func TestSessionsOfZeroValues(t *testing.T) {
	var zero engine.Session
	for _, s := range []*engine.Session{{}, new(engine.Session), &zero} {
		s.In()
		s.Out()
		s.Range()
		s.Model()
		s.Cert()
		for _, x := range inputsOf() {
			s.Run(x)
			s.Trace(x)
		}
	}
}

// The models that the tests speak of have ops of every kind whose output is the
// input, the last tensor, and one between.
func TestOutputsOfTheModels(t *testing.T) {
	outs := map[string]bool{}
	for _, n := range smallModels() {
		if model.Check(n.m) == (api.Fault{}) {
			outs["the input"] = outs["the input"] || n.m.Out == 0 && len(n.m.Ops) > 0
			outs["the last"] = outs["the last"] || n.m.Out == len(n.m.Ops)
		}
	}
	if !outs["the input"] || !outs["the last"] {
		t.Errorf("%v", outs)
	}
}

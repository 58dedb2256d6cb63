package engine_test

import (
	"math/rand"
	"reflect"
	"slices"
	"testing"

	"spillway/api"
	"spillway/cert"
	"spillway/check"
	"spillway/engine"
	"spillway/kern"
	"spillway/model"
	"spillway/pack"
	"spillway/plain"
	"spillway/plan"
	"spillway/seal"
	"spillway/wire"
)

// bytesOf are a model's bytes, put behind one another once more, so that models
// that aren't well-formed have some, too. Layer 4 copies what it is handed, and so
// is handed nothing.
func bytesOf(m api.Model) []byte {
	b := []byte("SWM1")
	u := func(numbers ...int) {
		for _, n := range numbers {
			b = append(b, wire.PutU(nil, uint64(n))...)
		}
	}
	s := func(numbers ...int) {
		for _, n := range numbers {
			b = append(b, wire.PutS(nil, int64(n))...)
		}
	}
	u(m.In.H, m.In.W, m.In.C)
	s(m.Lo, m.Hi)
	u(len(m.Ops))
	for _, op := range m.Ops {
		w := op.Win
		u(op.Kind, op.A, op.B, op.M, w.KH, w.KW, w.SH, w.SW, w.Top, w.Left, w.Bottom, w.Right, len(op.Weights))
		for _, n := range op.Weights {
			s(int(n))
		}
		u(len(op.Bias))
		for _, n := range op.Bias {
			s(int(n))
		}
		u(op.SA.Mult, op.SA.Shift, op.SB.Mult, op.SB.Shift)
		s(op.Zero, op.Pad, op.Lo, op.Hi)
	}
	u(m.Out)
	return b
}

// sealed are the bytes of a certificate.
func sealed(t *testing.T, c api.Cert) []byte {
	t.Helper()
	b, f := seal.Encode(c)
	if f != (api.Fault{}) {
		t.Fatalf("%+v: %v", c, f)
	}
	return b
}

// planned is what layer 19 plans for a model that fits.
func planned(t *testing.T, name string, m api.Model) api.Cert {
	t.Helper()
	c, f := plan.Plan(m)
	if f != (api.Fault{}) {
		t.Fatalf("%s: %v\n%+v", name, f, m)
	}
	return c
}

// secondLoad is what the layers below say of these bytes.
func secondLoad(m, c []byte) (api.Model, api.Cert, api.Fault) {
	read, f := pack.Decode(m)
	if f != (api.Fault{}) {
		return api.Model{}, api.Cert{}, f
	}
	claimed, f := seal.Decode(c)
	if f != (api.Fault{}) {
		return api.Model{}, api.Cert{}, f
	}
	return read, claimed, check.Check(read, claimed)
}

// expectFault: Load of these bytes answers this fault, and no session beside it.
func expectFault(t *testing.T, name string, m, c []byte, want api.Fault) {
	t.Helper()
	if s, f := engine.Load(m, c); f != want || s != nil {
		t.Errorf("%s: Load: %v %v; want %v", name, s, f, want)
	}
}

// loaded is the session of bytes that hold.
func loaded(t *testing.T, name string, m, c []byte) *engine.Session {
	t.Helper()
	s, f := engine.Load(m, c)
	if f != (api.Fault{}) || s == nil {
		t.Fatalf("%s: Load: %v %v", name, s, f)
	}
	return s
}

// sessionOf is the session of a model, by a certificate that holds.
func sessionOf(t *testing.T, name string, m api.Model, c api.Cert) *engine.Session {
	t.Helper()
	return loaded(t, name, bytesOf(m), sealed(t, c))
}

// plannedSession is the session of a model, by its planned certificate.
func plannedSession(t *testing.T, name string, m api.Model) *engine.Session {
	t.Helper()
	return sessionOf(t, name, m, planned(t, name, m))
}

// hold holds Load of these bytes to what the layers below say of them, and
// answers the fault.
func hold(t *testing.T, name string, m, c []byte) api.Fault {
	t.Helper()
	read, claimed, want := secondLoad(m, c)
	if want != (api.Fault{}) {
		expectFault(t, name, m, c, want)
		return want
	}
	holdWhatItHas(t, name, loaded(t, name, m, c), read, claimed)
	return want
}

// holdWhatItHas holds a session to the model and the certificate that it is of.
func holdWhatItHas(t *testing.T, name string, s *engine.Session, m api.Model, c api.Cert) {
	t.Helper()
	shapes, _ := model.Shapes(m)
	if s.In() != m.In || s.Out() != shapes[m.Out] || s.Range() != span(int64(m.Lo), int64(m.Hi)) {
		t.Errorf("%s: In %v, Out %v, Range %v; the model is %+v", name, s.In(), s.Out(), s.Range(), m)
	}
	if got := s.Model(); !reflect.DeepEqual(bare(got), bare(m)) {
		t.Errorf("%s: Model: %+v; want %+v", name, got, m)
	}
	if got := s.Cert(); !cert.Same(got, c) {
		t.Errorf("%s: Cert: %+v; want %+v", name, got, c)
	}
}

// bare is the model with nil for every list that has nothing in it.
func bare(m api.Model) api.Model {
	m.Ops = slices.Clone(m.Ops)
	if len(m.Ops) == 0 {
		m.Ops = nil
	}
	for i, op := range m.Ops {
		if len(op.Weights) == 0 {
			m.Ops[i].Weights = nil
		}
		if len(op.Bias) == 0 {
			m.Ops[i].Bias = nil
		}
	}
	return m
}

// expectRefused: neither Run nor Trace takes x.
func expectRefused(t *testing.T, name string, s *engine.Session, x []int8, want api.Errno) {
	t.Helper()
	if out, e := s.Run(x); e != want || len(out) != 0 {
		t.Errorf("%s: Run(%v): %v %d; want the error %d", name, x, out, int(e), int(want))
	}
	if tracks, e := s.Trace(x); e != want || len(tracks) != 0 {
		t.Errorf("%s: Trace(%v): %v %d; want the error %d", name, x, tracks, int(e), int(want))
	}
}

// expectRun: Run of x answers want.
func expectRun(t *testing.T, name string, s *engine.Session, x, want []int8) {
	t.Helper()
	if got, e := s.Run(x); e != api.OK || !slices.Equal(got, want) {
		t.Errorf("%s: Run(%v): %v %d; want %v", name, x, got, int(e), want)
	}
}

// expectTrace: Trace of x answers want.
func expectTrace(t *testing.T, name string, s *engine.Session, x []int8, want ...api.Track) {
	t.Helper()
	if got, e := s.Trace(x); e != api.OK || !slices.Equal(got, want) {
		t.Errorf("%s: Trace(%v): %+v %d; want %+v", name, x, got, int(e), want)
	}
}

// opByOp is what layer 21 makes of an input, each op by itself over the tensors
// that it made ahead, and the Track of each.
func opByOp(t *testing.T, name string, m api.Model, c api.Cert, x []int8) ([][]int8, []api.Track) {
	t.Helper()
	tensors, tracks := [][]int8{x}, []api.Track{}
	for i, o := range m.Ops {
		var b []int8
		if o.Kind == api.Add {
			b = tensors[o.B]
		}
		made, track, f := kern.Op(m, i+1, c.Plans[i], tensors[o.A], b)
		if f != (api.Fault{}) {
			t.Fatalf("%s: op %d: %v", name, i+1, f)
		}
		tensors, tracks = append(tensors, made), append(tracks, track)
	}
	return tensors, tracks
}

// holdRun holds a session's Run and Trace of an input to layers 11, 15 and 21.
func holdRun(t *testing.T, name string, s *engine.Session, m api.Model, c api.Cert, x []int8) {
	t.Helper()
	tensors, tracks := opByOp(t, name, m, c, x)
	expectRun(t, name, s, x, tensors[m.Out])
	want, f := plain.Eval(m, x)
	if f != (api.Fault{}) {
		t.Fatalf("%s: layer 11: %v", name, f)
	}
	expectRun(t, name, s, x, want)
	expectTrace(t, name, s, x, tracks...)
	var all api.Track
	for i, track := range tracks {
		if track.Wraps != 0 || !model.Reduces(m.Ops[i].Kind) && track != (api.Track{}) {
			t.Errorf("%s: op %d: %+v", name, i+1, track)
		}
		all = api.Track{Muls16: all.Muls16 + track.Muls16, Adds16: all.Adds16 + track.Adds16, Muls32: all.Muls32 + track.Muls32, Adds32: all.Adds32 + track.Adds32}
	}
	if cost, f := cert.Cost(m, c); f != (api.Fault{}) || cost != all {
		t.Errorf("%s: %+v were made; the cost is %+v %v", name, all, cost, f)
	}
}

func placesOf(s api.Shape) int { return s.H * s.W * s.C }

// declared are numbers of the declared range.
func declared(r *rand.Rand, m api.Model) []int8 {
	list := make([]int8, placesOf(m.In))
	for i := range list {
		list[i] = int8(anyOf(r, m.Lo, m.Hi, m.Lo+r.Intn(m.Hi-m.Lo+1)))
	}
	return list
}

// allOf is the input of these numbers over and over.
func allOf(m api.Model, numbers ...int) []int8 {
	var list []int8
	for i := range placesOf(m.In) {
		list = append(list, int8(numbers[i%len(numbers)]))
	}
	return list
}

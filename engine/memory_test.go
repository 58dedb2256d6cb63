package engine_test

import (
	"bytes"
	"math/rand"
	"slices"
	"testing"

	"spillway/api"
	"spillway/engine"
	"spillway/seal"
)

const mark = 99

// roomy has the list with eight items more of room behind it, all marked.
func roomy[T any](list []T, marked T) []T {
	room := append(slices.Clone(list), slices.Repeat([]T{marked}, 8)...)
	return room[:len(list)]
}

func whole[T any](list []T) []T { return list[:cap(list)] }

// spoil overwrites a list, the room behind it too.
func spoil[T any](list []T, with T) {
	for i := range whole(list) {
		whole(list)[i] = with
	}
}

// spoilModel overwrites every list of a model.
func spoilModel(m api.Model) {
	for _, op := range whole(m.Ops) {
		spoil(op.Weights, -4321)
		spoil(op.Bias, 4321)
	}
	spoil(m.Ops, api.Op{Kind: -1, A: -1})
}

// spoilCert overwrites every list of a certificate.
func spoilCert(c api.Cert) {
	spoil(c.Ranges, span(1, 0))
	for _, plans := range whole(c.Plans) {
		spoil(plans, api.Chan{Width: 16, Depth: 1})
	}
	spoil(c.Plans, nil)
}

// inMemory are models that are planned, small ones: of every kind of op, without
// ops, and with the input as the output.
func inMemory() []named {
	return []named{
		{"the example", denseExample()}, {"every kind", everyKind()}, {"adding", adding()}, {"skipping", skipping()}, {"mixed widths", mixedWidths()},
		{"no ops", star(of(2, 2, 2))}, {"the input of the adding one", from(0, adding())}, {"ahead of the last", from(3, everyKind())},
	}
}

// P22.6, rule 7: Load changes nothing of the bytes, the room behind them
// included, doesn't read that room, and keeps nothing of them.
func TestLoadLeavesTheBytes(t *testing.T) {
	for _, n := range inMemory() {
		planned := planned(t, n.name, n.m)
		m, c := roomy(bytesOf(n.m), 0xee), roomy(sealed(t, planned), 0xee)
		aheadM, aheadC := bytes.Clone(whole(m)), bytes.Clone(whole(c))
		s := loaded(t, n.name, m, c)
		x := allOf(n.m, n.m.Lo, n.m.Hi)
		want, _ := s.Run(x)
		tracks, _ := s.Trace(x)
		if !bytes.Equal(whole(m), aheadM) || !bytes.Equal(whole(c), aheadC) {
			t.Errorf("%s: changed", n.name)
		}
		for _, with := range []byte{0, 0x99} {
			spoil(m, with)
			spoil(c, with)
			holdWhatItHas(t, n.name, s, n.m, planned)
			expectRun(t, n.name, s, x, want)
			expectTrace(t, n.name, s, x, tracks...)
		}
	}
}

// Rule 7: nor of bytes that are refused.
func TestLoadLeavesRefusedBytes(t *testing.T) {
	for _, n := range inMemory() {
		m, c := bytesOf(n.m), sealed(t, planned(t, n.name, n.m))
		for _, e := range []struct{ m, c []byte }{{m[:len(m)-1], c}, {m, c[:len(c)-1]}, {append(m, 0), c}, {m, sealed(t, api.Cert{})}} {
			roomM, roomC := roomy(e.m, 0xee), roomy(e.c, 0xee)
			aheadM, aheadC := bytes.Clone(whole(roomM)), bytes.Clone(whole(roomC))
			if f := hold(t, n.name, roomM, roomC); f == (api.Fault{}) {
				t.Errorf("%s: taken", n.name)
			}
			if !bytes.Equal(whole(roomM), aheadM) || !bytes.Equal(whole(roomC), aheadC) {
				t.Errorf("%s: changed", n.name)
			}
		}
	}
}

// Rules 7 and 8: Plan changes nothing of the bytes, keeps nothing of them, and
// answers new memory.
func TestPlanLeavesTheBytes(t *testing.T) {
	for _, n := range inMemory() {
		m := roomy(bytesOf(n.m), 0xee)
		ahead := bytes.Clone(whole(m))
		first, _ := engine.Plan(m)
		second, _ := engine.Plan(m)
		want := bytes.Clone(first)
		spoil(first, mark)
		if !bytes.Equal(whole(m), ahead) {
			t.Errorf("%s: changed", n.name)
		}
		spoil(m, mark)
		third, f := engine.Plan(bytesOf(n.m))
		if f != (api.Fault{}) || !bytes.Equal(second, want) || !bytes.Equal(third, want) {
			t.Errorf("%s: the answers share memory: %v", n.name, f)
		}
	}
}

// P22.3, P22.6: Model and Cert are new memory at each call: what is written into
// one answer is seen neither in another one nor by Run.
func TestModelAndCertAreNew(t *testing.T) {
	for _, n := range inMemory() {
		c := planned(t, n.name, n.m)
		s := sessionOf(t, n.name, n.m, c)
		x := allOf(n.m, n.m.Lo, n.m.Hi)
		want, _ := s.Run(x)
		tracks, _ := s.Trace(x)
		otherModel, otherCert := s.Model(), s.Cert()
		spoilModel(s.Model())
		spoilCert(s.Cert())
		holdWhatItHas(t, n.name, s, n.m, c)
		expectRun(t, n.name, s, x, want)
		expectTrace(t, n.name, s, x, tracks...)
		if !bytes.Equal(bytesOf(otherModel), bytesOf(n.m)) || !bytes.Equal(sealed(t, otherCert), sealed(t, c)) {
			t.Errorf("%s: two answers share memory", n.name)
		}
	}
}

// Rule 7: no two lists of one answer share any.
func TestNoTwoListsShare(t *testing.T) {
	for _, n := range inMemory() {
		c := planned(t, n.name, n.m)
		s := sessionOf(t, n.name, n.m, c)
		for i, op := range n.m.Ops {
			m := s.Model()
			spoil(m.Ops[i].Weights, -4321)
			m.Ops[i].Weights = op.Weights
			if !bytes.Equal(bytesOf(m), bytesOf(n.m)) {
				t.Errorf("%s: the weights of op %d are others', too", n.name, i+1)
			}
			spoil(m.Ops[i].Bias, 4321)
			m.Ops[i].Bias = op.Bias
			if !bytes.Equal(bytesOf(m), bytesOf(n.m)) {
				t.Errorf("%s: the biases of op %d are others', too", n.name, i+1)
			}
			claimed := s.Cert()
			spoil(claimed.Plans[i], api.Chan{})
			claimed.Plans[i] = c.Plans[i]
			if !bytes.Equal(sealed(t, claimed), sealed(t, c)) {
				t.Errorf("%s: the plans of op %d are others', too", n.name, i+1)
			}
		}
	}
}

// P22.4, P22.6, rule 7: Run and Trace change nothing of the input, the room behind
// it included, and keep nothing of it; what they answer is new memory.
func TestRunsAreNew(t *testing.T) {
	r := rand.New(rand.NewSource(232))
	for _, n := range inMemory() {
		c := planned(t, n.name, n.m)
		s := sessionOf(t, n.name, n.m, c)
		for range 5 {
			x := roomy(declared(r, n.m), mark)
			ahead := slices.Clone(whole(x))
			first, _ := s.Run(x)
			second, _ := s.Run(x)
			tracks, _ := s.Trace(x)
			again, _ := s.Trace(x)
			want, did := slices.Clone(second), slices.Clone(again)
			spoil(first, mark)
			spoil(tracks, api.Track{Wraps: mark})
			if !slices.Equal(second, want) || !slices.Equal(again, did) {
				t.Errorf("%s: two answers share memory", n.name)
			}
			if !slices.Equal(whole(x), ahead) {
				t.Errorf("%s: the input is changed, or shares memory with an answer", n.name)
			}
			spoil(x, mark)
			if !slices.Equal(second, want) || !slices.Equal(again, did) {
				t.Errorf("%s: an answer goes with the input", n.name)
			}
			holdWhatItHas(t, n.name, s, n.m, c)
			expectRun(t, n.name, s, ahead[:len(x)], want)
			expectTrace(t, n.name, s, ahead[:len(x)], did...)
		}
	}
}

// Rule 7: an input that is refused isn't changed either.
func TestRefusedInputsAreLeft(t *testing.T) {
	m := declaring(0, 10, everyKind())
	s := plannedSession(t, "every kind", m)
	for _, x := range [][]int8{allOf(m, 11), allOf(m, -1), allOf(m, 5)[1:], append(allOf(m, 5), 5)} {
		x = roomy(x, mark)
		ahead := slices.Clone(whole(x))
		expectRefused(t, "refused", s, x, api.ErrInput)
		if !slices.Equal(whole(x), ahead) {
			t.Errorf("changed: %v", x)
		}
	}
}

// Rule 8, P22.6: sessions of the same bytes know nothing of each other, and a
// fault leaves nothing behind.
func TestSessionsOfTheSameBytes(t *testing.T) {
	for _, n := range inMemory() {
		m, c := bytesOf(n.m), sealed(t, planned(t, n.name, n.m))
		first := loaded(t, n.name, m, c)
		expectFault(t, n.name, m[:3], c, fault(api.ErrShort))
		second := loaded(t, n.name, m, c)
		if first == second {
			t.Errorf("%s: one session twice", n.name)
		}
		spoilModel(first.Model())
		spoilCert(first.Cert())
		read, _ := seal.Decode(c)
		holdWhatItHas(t, n.name, second, n.m, read)
		x := allOf(n.m, n.m.Hi, n.m.Lo)
		out, _ := first.Run(x)
		want := slices.Clone(out)
		spoil(out, mark)
		expectRun(t, n.name, second, x, want)
	}
}

// Rule 6: a list that is nil is as one that is empty.
func TestEmptyListsAreNil(t *testing.T) {
	s := plannedSession(t, "the example", denseExample())
	for _, none := range [][]int8{nil, {}, make([]int8, 0, 9)} {
		expectRefused(t, "no numbers", s, none, api.ErrInput)
	}
	for _, none := range [][]byte{nil, {}, make([]byte, 0, 99)} {
		expectFault(t, "no bytes", none, narrowCert(), fault(api.ErrShort))
		expectFault(t, "no bytes", narrowBytes(), none, fault(api.ErrShort))
		if c, f := engine.Plan(none); f != fault(api.ErrShort) || len(c) != 0 {
			t.Errorf("Plan: %x %v", c, f)
		}
	}
}

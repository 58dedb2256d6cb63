package pack_test

import (
	"bytes"
	"reflect"
	"slices"
	"sync"
	"testing"

	"spillway/api"
	"spillway/pack"
)

// roomy has the list with eight items more of room behind it, all of them fill.
func roomy[T any](list []T, fill T) []T {
	room := append(slices.Clone(list), slices.Repeat([]T{fill}, 8)...)
	return room[:len(list)]
}

// roomyModel has room behind each of its lists.
func roomyModel(m api.Model) api.Model {
	m.Ops = roomy(m.Ops, api.Op{Kind: 77})
	for i := range m.Ops {
		m.Ops[i].Weights = roomy(m.Ops[i].Weights, -77)
		m.Ops[i].Bias = roomy(m.Ops[i].Bias, 7777)
	}
	return m
}

func whole[T any](list []T) []T { return list[:cap(list)] }

// wholeModel is the model with the room behind its lists as parts of them.
func wholeModel(m api.Model) api.Model {
	m.Ops = slices.Clone(whole(m.Ops))
	for i := range m.Ops {
		m.Ops[i].Weights = slices.Clone(whole(m.Ops[i].Weights))
		m.Ops[i].Bias = slices.Clone(whole(m.Ops[i].Bias))
	}
	return m
}

// Rule 7: Encode changes nothing of the model, the room behind its lists
// included, and keeps nothing of it.
func TestEncodeLeavesTheModel(t *testing.T) {
	for _, n := range smallModels() {
		m := roomyModel(n.m)
		ahead := wholeModel(m)
		b, _ := pack.Encode(m)
		if !reflect.DeepEqual(wholeModel(m), ahead) {
			t.Errorf("%s: changed", n.name)
		}
		want := bytes.Clone(b)
		spoilModel(&m)
		if !bytes.Equal(b, want) {
			t.Errorf("%s: the answer goes with the model", n.name)
		}
	}
}

// Rule 7: a model that is refused isn't changed either.
func TestEncodeLeavesARefusedModel(t *testing.T) {
	m := everyKind()
	m.Ops[8].Bias = m.Ops[8].Bias[:1]
	m = roomyModel(m)
	ahead := wholeModel(m)
	if _, f := pack.Encode(m); f != fault(api.ErrLens, 9) {
		t.Errorf("%v", f)
	}
	if !reflect.DeepEqual(wholeModel(m), ahead) {
		t.Error("changed")
	}
}

// spoilModel overwrites every list, the room behind it too.
func spoilModel(m *api.Model) {
	for i := range whole(m.Ops) {
		op := &whole(m.Ops)[i]
		spoil(op.Weights, -4321)
		spoil(op.Bias, 4321)
		*op = api.Op{Kind: -1}
	}
}

func spoil[T any](list []T, with T) {
	for i := range whole(list) {
		whole(list)[i] = with
	}
}

// Rule 7, 8: what Encode answered is the caller's, and another call is as the
// first.
func TestEncodeAnswersNewMemory(t *testing.T) {
	for _, n := range smallModels() {
		first, _ := pack.Encode(n.m)
		second, _ := pack.Encode(n.m)
		want := bytes.Clone(first)
		spoil(first, 0xee)
		third, _ := pack.Encode(n.m)
		if !bytes.Equal(second, want) || !bytes.Equal(third, want) {
			t.Errorf("%s: the answers share memory", n.name)
		}
	}
}

// Rule 7: Decode changes nothing of the bytes, the room behind them included,
// and keeps nothing of them.
func TestDecodeLeavesTheBytes(t *testing.T) {
	for _, n := range smallModels() {
		b := roomy(bytesOf(n.m), 0xee)
		ahead := bytes.Clone(whole(b))
		m, f := pack.Decode(b)
		if f != (api.Fault{}) || !bytes.Equal(whole(b), ahead) {
			t.Errorf("%s: changed, or %v", n.name, f)
		}
		spoil(b, 0x99)
		if !sameModel(m, n.m) {
			t.Errorf("%s: the model goes with the bytes", n.name)
		}
	}
}

// Rule 7: bytes that are refused aren't changed either, and what stands in the
// room behind them isn't read.
func TestDecodeLeavesRefusedBytes(t *testing.T) {
	_, b := example()
	for cut := range b {
		room := bytes.Clone(b)
		if _, f := pack.Decode(room[:cut]); f.Err != api.ErrShort {
			t.Errorf("%d bytes: %v", cut, f)
		}
		if !bytes.Equal(room, b) {
			t.Errorf("%d bytes: changed", cut)
		}
	}
}

// Rule 7, 8: what Decode answered is the caller's: no list of it is another's,
// and another call is as the first.
func TestDecodeAnswersNewMemory(t *testing.T) {
	for _, n := range smallModels() {
		b := bytesOf(n.m)
		second, _ := pack.Decode(b)
		for at := range n.m.Ops {
			m, _ := pack.Decode(b)
			spoil(m.Ops[at].Weights, -4321)
			m.Ops[at].Weights = n.m.Ops[at].Weights
			if !sameModel(m, n.m) {
				t.Errorf("%s: the weights of op %d are others', too", n.name, at+1)
			}
			spoil(m.Ops[at].Bias, 4321)
			m.Ops[at].Bias = n.m.Ops[at].Bias
			if !sameModel(m, n.m) {
				t.Errorf("%s: the biases of op %d are others', too", n.name, at+1)
			}
			spoil(m.Ops, api.Op{Kind: -1})
		}
		third, _ := pack.Decode(b)
		if !sameModel(second, n.m) || !sameModel(third, n.m) {
			t.Errorf("%s: the answers share memory", n.name)
		}
	}
}

// Rule 8: a fault leaves nothing behind for the next call, and calls that are
// made at one time don't know of each other.
func TestNothingIsKept(t *testing.T) {
	m, b := example()
	expectFault(t, "cut", b[:27], fault(api.ErrShort, 1))
	expectModel(t, "behind a fault", b, m)
	var all sync.WaitGroup
	for i := range 8 {
		all.Go(func() {
			for range 200 {
				if _, f := pack.Decode(b[:20+i]); f != fault(api.ErrShort, 1) {
					t.Errorf("%v", f)
				}
				if got, f := pack.Decode(b); f != (api.Fault{}) || !sameModel(got, m) {
					t.Errorf("%+v, %v", got, f)
				}
			}
		})
	}
	all.Wait()
}

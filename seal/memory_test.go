package seal_test

import (
	"bytes"
	"reflect"
	"slices"
	"sync"
	"testing"

	"spillway/api"
	"spillway/seal"
)

// roomy has the list with eight items more of room behind it, all of them fill.
func roomy[T any](list []T, fill T) []T {
	room := append(slices.Clone(list), slices.Repeat([]T{fill}, 8)...)
	return room[:len(list)]
}

// roomyCert has room behind each of its lists.
func roomyCert(c api.Cert) api.Cert {
	c.Ranges = roomy(c.Ranges, span(77, -77))
	c.Plans = roomy(c.Plans, []api.Chan{{Width: 77}})
	for i := range c.Plans {
		c.Plans[i] = roomy(c.Plans[i], plan(77, -77, span(7, 7), span(8, 8)))
	}
	return c
}

func whole[T any](list []T) []T { return list[:cap(list)] }

// wholeCert is the certificate with the room behind its lists as parts of them.
func wholeCert(c api.Cert) api.Cert {
	c.Ranges = slices.Clone(whole(c.Ranges))
	c.Plans = slices.Clone(whole(c.Plans))
	for i := range c.Plans {
		c.Plans[i] = slices.Clone(whole(c.Plans[i]))
	}
	return c
}

func spoil[T any](list []T, with T) {
	for i := range whole(list) {
		whole(list)[i] = with
	}
}

// spoilLists overwrites every list, the room behind it too.
func spoilLists(c api.Cert) {
	spoil(c.Ranges, span(-4321, 4321))
	for _, list := range whole(c.Plans) {
		spoil(list, plan(-1, -1, span(5, 4), span(3, 2)))
	}
	spoil(c.Plans, nil)
}

// Rule 7: Encode changes nothing of the certificate, the room behind its lists
// included, doesn't read that room, and keeps nothing of it.
func TestEncodeLeavesTheCertificate(t *testing.T) {
	for _, n := range smallCerts() {
		c := roomyCert(n.c)
		ahead := wholeCert(c)
		b, f := seal.Encode(c)
		if !reflect.DeepEqual(wholeCert(c), ahead) {
			t.Errorf("%s: changed", n.name)
		}
		spoilLists(c)
		if f != (api.Fault{}) || !bytes.Equal(b, bytesOf(n.c)) {
			t.Errorf("%s: the answer goes with the certificate: %v", n.name, f)
		}
	}
}

// Rule 7: a certificate that is refused isn't changed either.
func TestEncodeLeavesARefusedCertificate(t *testing.T) {
	wrong := api.Cert{Ranges: spansOf(3), Plans: [][]api.Chan{spread(2), {{}, {Depth: -1}}, spread(1)}}
	for _, plain := range []api.Cert{wrong, {Ranges: spansOf(66)}, {Plans: listsOf(65)}, {Plans: [][]api.Chan{nil, spread(1025)}}} {
		c := roomyCert(plain)
		ahead := wholeCert(c)
		_, want := encoded(plain)
		expectRefused(t, "refused", c, want)
		if !reflect.DeepEqual(wholeCert(c), ahead) {
			t.Errorf("%v: changed", want)
		}
	}
}

// Rules 7, 8: what Encode answered is the caller's, to change and to let grow,
// and another call is as the first.
func TestEncodeAnswersNewMemory(t *testing.T) {
	for _, n := range smallCerts() {
		want := bytesOf(n.c)
		first, _ := seal.Encode(n.c)
		second, _ := seal.Encode(n.c)
		_ = append(first, bytes.Repeat([]byte{0x77}, 9)...)
		spoil(first, 0xee)
		third, _ := seal.Encode(n.c)
		if !bytes.Equal(second, want) || !bytes.Equal(third, want) {
			t.Errorf("%s: the answers share memory", n.name)
		}
	}
}

// Rule 7: Decode changes nothing of the bytes, the room behind them included,
// doesn't read that room, and keeps nothing of them.
func TestDecodeLeavesTheBytes(t *testing.T) {
	for _, n := range smallCerts() {
		b := roomy(bytesOf(n.c), 0xee)
		ahead := bytes.Clone(whole(b))
		c, f := seal.Decode(b)
		if f != (api.Fault{}) || !bytes.Equal(whole(b), ahead) {
			t.Errorf("%s: changed, or %v", n.name, f)
		}
		spoil(b, 0x99)
		if !sameCert(c, n.c) {
			t.Errorf("%s: the certificate goes with the bytes", n.name)
		}
	}
}

// Rule 7: bytes that are refused aren't changed either, and what stands in the
// room behind them isn't read.
func TestDecodeLeavesRefusedBytes(t *testing.T) {
	_, b := example()
	for cut := range b {
		room := bytes.Clone(b)
		if _, f := seal.Decode(room[:cut]); f.Err != api.ErrShort {
			t.Errorf("%d bytes: %v", cut, f)
		}
		if !bytes.Equal(room, b) {
			t.Errorf("%d bytes: changed", cut)
		}
	}
}

// Rules 7, 8: of what Decode answered one list is changed, its room too, and let
// grow; the others stay, and another call is as the first.
func TestDecodeAnswersNewMemory(t *testing.T) {
	for _, n := range allCerts()[:len(allCerts())-1] {
		b := bytesOf(n.c)
		early, _ := seal.Decode(b)
		for at := range n.c.Plans {
			c, _ := seal.Decode(b)
			_ = append(c.Plans[at], plan(9, 9, span(9, 9), span(9, 9)))
			if !sameCert(c, n.c) {
				t.Errorf("%s: list %d grows into another", n.name, at+1)
			}
			spoil(c.Plans[at], plan(-4, -3, span(2, 1), span(1, 0)))
			c.Plans[at] = n.c.Plans[at]
			if !sameCert(c, n.c) {
				t.Errorf("%s: list %d is another's, too", n.name, at+1)
			}
		}
		c, _ := seal.Decode(b)
		_, _ = append(c.Ranges, span(9, 9)), append(c.Plans, spread(1))
		spoil(c.Ranges, span(-4321, 4321))
		c.Ranges = n.c.Ranges
		if !sameCert(c, n.c) {
			t.Errorf("%s: the ranges are others', too", n.name)
		}
		spoilLists(api.Cert{Plans: c.Plans})
		late, _ := seal.Decode(b)
		if !sameCert(early, n.c) || !sameCert(late, n.c) {
			t.Errorf("%s: the answers share memory", n.name)
		}
	}
}

// Rule 7: no two lists of an answer have a piece of memory in common, room
// included.
func TestListsShareNoRoom(t *testing.T) {
	for _, n := range smallCerts() {
		c, _ := seal.Decode(bytesOf(n.c))
		seen := map[*api.Chan]int{}
		for i, list := range c.Plans {
			for k := range whole(list) {
				at := &whole(list)[k]
				if other, met := seen[at]; met {
					t.Errorf("%s: lists %d and %d share memory", n.name, other+1, i+1)
				}
				seen[at] = i
			}
		}
	}
}

// Rule 8: a fault leaves nothing behind for the next call, and calls that are
// made at one time don't know of each other.
func TestNothingIsKept(t *testing.T) {
	c, b := example()
	expectFault(t, "cut", b[:14], fault(api.ErrShort, 1, 1))
	expectCert(t, "behind a fault", b, c)
	expectRefused(t, "refused", api.Cert{Plans: [][]api.Chan{{{Width: -1}}}}, fault(api.ErrArg, 1, 1))
	expectBytes(t, "behind a refusal", c, b)
	var all sync.WaitGroup
	for i := range 6 {
		all.Go(func() {
			for range 200 {
				expectFault(t, "cut", b[:11+i], fault(api.ErrShort, 1, 1))
				expectCert(t, "beside others", b, c)
				expectBytes(t, "beside others", c, b)
			}
		})
	}
	all.Wait()
}

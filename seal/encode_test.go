package seal_test

import (
	"bytes"
	"fmt"
	"math/rand"
	"testing"

	"spillway/api"
	"spillway/seal"
)

func fault(e api.Errno, op, plan int) api.Fault { return api.Fault{Err: e, Op: op, Chan: plan} }

// expectBytes: Encode answers these bytes and no fault.
func expectBytes(t *testing.T, what string, c api.Cert, want []byte) {
	t.Helper()
	if b, f := seal.Encode(c); f != (api.Fault{}) || !bytes.Equal(b, want) {
		t.Errorf("%s: %v, % x, not % x", what, f, b[:min(len(b), 60)], want[:min(len(want), 60)])
	}
}

// expectRefused: Encode answers this fault and no bytes.
func expectRefused(t *testing.T, what string, c api.Cert, want api.Fault) {
	t.Helper()
	if b, f := seal.Encode(c); f != want || len(b) != 0 {
		t.Errorf("%s: %v, not %v, % x", what, f, want, b[:min(len(b), 60)])
	}
}

// The chapter's example 1, both ways.
func TestExampleOne(t *testing.T) {
	c, b := example()
	expectBytes(t, "the example", c, b)
	expectCert(t, "the example", b, c)
}

// The chapter's example 2.
func TestExampleTwo(t *testing.T) {
	bare := []byte{0x53, 0x57, 0x43, 0x31, 0, 0}
	for _, n := range bareCerts() {
		expectBytes(t, n.name, n.c, bare)
	}
	expectCert(t, "nothing", bare, api.Cert{})
	expectFault(t, "66 Ranges", []byte("SWC1\x42"), fault(api.ErrLong, 0, 0))
	expectFault(t, "a Width alone", []byte("SWC1\x00\x01\x01\x10"), fault(api.ErrShort, 1, 1))
	expectFault(t, "no list", []byte("SWC1\x00\x01"), fault(api.ErrShort, 1, 0))
	expectFault(t, "00 behind", []byte("SWC1\x00\x00\x00"), fault(api.ErrTail, 0, 0))
}

// P16.1: the bytes are the chapter's table, number by number.
func TestEncodeBytes(t *testing.T) {
	for _, n := range allCerts() {
		expectBytes(t, n.name, n.c, bytesOf(n.c))
	}
}

// P16.1: some bytes by hand: each number at its place, far ends, lists of
// nothing between others.
func TestEncodeBytesByHand(t *testing.T) {
	far := "\xff\xff\xff\xff\xff\xff\xff\xff\xff\x01"
	top := "\xfe\xff\xff\xff\xff\xff\xff\xff\xff\x01"
	size := "\xff\xff\xff\xff\x07"
	for want, c := range map[string]api.Cert{
		"SWC1\x01\x02\x01\x00":                                                         {Ranges: []api.Span{span(1, -1)}},
		"SWC1\x01" + far + top + "\x00":                                                {Ranges: []api.Span{span(least, most)}},
		"SWC1\x01" + top + far + "\x00":                                                {Ranges: []api.Span{span(most, least)}},
		"SWC1\x00\x01\x00":                                                             {Plans: [][]api.Chan{nil}},
		"SWC1\x00\x03\x00\x01\x01\x02\x06\x08\x0a\x0c\x00":                             {Plans: [][]api.Chan{{}, {plan(1, 2, span(3, 4), span(5, 6))}, nil}},
		"SWC1\x00\x01\x01" + size + "\x00" + top + far + far + top:                     {Plans: [][]api.Chan{{plan(greatest, 0, span(most, least), span(least, most))}}},
		"SWC1\x00\x01\x01\x00" + size + "\x80\x01\x7f\x7e\x81\x01":                     {Plans: [][]api.Chan{{plan(0, greatest, span(64, -64), span(63, -65))}}},
		"SWC1\x00\x02\x02\x01\x02\x03\x04\x05\x06\x07\x08\x09\x0a\x0b\x0c\x00":         {Plans: [][]api.Chan{{plan(1, 2, span(-2, 2), span(-3, 3)), plan(7, 8, span(-5, 5), span(-6, 6))}, {}}},
		"SWC1\x00\x02\x00\x02\x80\x01\x00\x00\x00\x00\x00\x00\xac\x02\x00\x00\x00\x00": {Plans: [][]api.Chan{{}, {{Width: 128}, {Depth: 300}}}},
	} {
		expectBytes(t, "by hand", c, []byte(want))
		expectCert(t, "by hand", []byte(want), c)
	}
}

// P16.1: the limits, and one above each.
func TestEncodeCounts(t *testing.T) {
	for _, n := range greatCerts() {
		expectBytes(t, n.name, n.c, bytesOf(n.c))
	}
	none := fault(api.ErrLong, 0, 0)
	for _, count := range []int{66, 67, 128, 256, 257, 1000, 65536} {
		expectRefused(t, fmt.Sprint(count, " ranges"), api.Cert{Ranges: spansOf(count)}, none)
		expectRefused(t, fmt.Sprint(count, " lists"), api.Cert{Plans: make([][]api.Chan, count)}, none)
	}
	expectRefused(t, "65 lists", api.Cert{Plans: make([][]api.Chan, 65)}, none)
	expectRefused(t, "65 ranges and 65 lists", api.Cert{Ranges: spansOf(65), Plans: listsOf(65)}, none)
	expectRefused(t, "66 ranges and 64 lists", api.Cert{Ranges: spansOf(66), Plans: listsOf(64)}, none)
	for _, count := range []int{1025, 1026, 2048, 65536, 65537} {
		for _, op := range []int{1, 2, 63, 64} {
			c := api.Cert{Plans: append(listsOf(op-1), make([]api.Chan, count))}
			expectRefused(t, fmt.Sprint(count, " plans, list ", op), c, fault(api.ErrLong, op, 0))
		}
	}
}

// P16.1: of several faults the one that the promise names first: what is said of
// all lists ahead of what is said of one, an earlier list's ahead of a later
// one's, of one list its length ahead of its plans.
func TestEncodeFirstFault(t *testing.T) {
	wrong, long := []api.Chan{{}, {Width: -1}, {Depth: -1}}, make([]api.Chan, 1025)
	longAndWrong := append([]api.Chan{{Width: -1}}, long...)
	for i, r := range []struct {
		ranges int
		lists  [][]api.Chan
		want   api.Fault
	}{
		{66, [][]api.Chan{wrong}, fault(api.ErrLong, 0, 0)},
		{66, [][]api.Chan{long}, fault(api.ErrLong, 0, 0)},
		{66, [][]api.Chan{longAndWrong, wrong, long}, fault(api.ErrLong, 0, 0)},
		{0, append([][]api.Chan{wrong, long}, listsOf(63)...), fault(api.ErrLong, 0, 0)},
		{0, append(listsOf(64), wrong), fault(api.ErrLong, 0, 0)},
		{0, append(listsOf(64), long), fault(api.ErrLong, 0, 0)},
		{66, append(listsOf(64), long), fault(api.ErrLong, 0, 0)},
		{65, [][]api.Chan{wrong, long}, fault(api.ErrArg, 1, 2)},
		{65, [][]api.Chan{long, wrong}, fault(api.ErrLong, 1, 0)},
		{0, [][]api.Chan{longAndWrong, wrong}, fault(api.ErrLong, 1, 0)},
		{0, [][]api.Chan{nil, wrong, wrong}, fault(api.ErrArg, 2, 2)},
		{0, [][]api.Chan{nil, wrong, long}, fault(api.ErrArg, 2, 2)},
		{0, [][]api.Chan{spread(3), longAndWrong, wrong}, fault(api.ErrLong, 2, 0)},
		{0, [][]api.Chan{spread(1024), wrong[1:]}, fault(api.ErrArg, 2, 1)},
		{1, [][]api.Chan{nil, {}, long, long}, fault(api.ErrLong, 3, 0)},
	} {
		expectRefused(t, fmt.Sprint("case ", i), api.Cert{Ranges: spansOf(r.ranges), Plans: r.lists}, r.want)
	}
}

// sizeSetters set a plan's Width, its Depth, or both.
func sizeSetters() map[string]func(p *api.Chan, x int) {
	return map[string]func(p *api.Chan, x int){
		"Width": func(p *api.Chan, x int) { p.Width = x },
		"Depth": func(p *api.Chan, x int) { p.Depth = x },
		"both":  func(p *api.Chan, x int) { p.Width, p.Depth = x, x },
	}
}

// P16.1: Widths and Depths at their ends and beyond, in the first plan, in one
// between and in the last, of the first list and of later ones.
func TestEncodeSizes(t *testing.T) {
	places := [][2]int{{1, 1}, {1, 2}, {1, 4}, {3, 1}, {3, 3}, {64, 1}, {64, 1024}}
	base := api.Cert{Ranges: spansOf(2), Plans: make([][]api.Chan, 64)}
	base.Plans[0], base.Plans[2], base.Plans[63] = spread(4), spread(3), spread(1024)
	for what, set := range sizeSetters() {
		for _, at := range places {
			for _, x := range rightSizes() {
				c := copied(base)
				set(&c.Plans[at[0]-1][at[1]-1], x)
				expectBytes(t, fmt.Sprint(what, at, x), c, bytesOf(c))
			}
			for _, x := range wrongSizes() {
				c := copied(base)
				set(&c.Plans[at[0]-1][at[1]-1], x)
				expectRefused(t, fmt.Sprint(what, at, x), c, fault(api.ErrArg, at[0], at[1]))
			}
		}
	}
}

// P16.1: spans may be any.
func TestEncodeAnySpans(t *testing.T) {
	c, _ := example()
	for _, s := range oddSpans() {
		for _, at := range []func(c api.Cert) *api.Span{
			func(c api.Cert) *api.Span { return &c.Ranges[0] },
			func(c api.Cert) *api.Span { return &c.Ranges[1] },
			func(c api.Cert) *api.Span { return &c.Plans[0][0].Part },
			func(c api.Cert) *api.Span { return &c.Plans[0][0].Total },
		} {
			turned := copied(c)
			*at(turned) = s
			expectBytes(t, fmt.Sprint(s), turned, bytesOf(turned))
			expectCert(t, fmt.Sprint(s), bytesOf(turned), turned)
		}
	}
}

// spoilCert makes one thing of the certificate such that it may have no bytes.
func spoilCert(r *rand.Rand, c *api.Cert) {
	switch r.Intn(6) {
	case 0:
		c.Ranges = spansOf(anyOf(r, 64, 65, 66, 67))
	case 1:
		c.Plans = append(c.Plans, make([][]api.Chan, max(0, anyOf(r, 63, 64, 65)-len(c.Plans)))...)
	default:
		if len(c.Plans) == 0 {
			return
		}
		at := r.Intn(len(c.Plans))
		if r.Intn(4) == 0 {
			c.Plans[at] = append(c.Plans[at], make([]api.Chan, anyOf(r, 1020, 1024, 1025))...)
		}
		if len(c.Plans[at]) > 0 {
			p := &c.Plans[at][r.Intn(len(c.Plans[at]))]
			*anyOf(r, &p.Width, &p.Depth) = anyOf(r, append(wrongSizes(), rightSizes()...)...)
		}
	}
}

// P16.1: held against the second reading, over certificates of all sorts.
func TestEncodeSecondReading(t *testing.T) {
	r := rand.New(rand.NewSource(161))
	counts := map[api.Errno]int{}
	for range 6000 {
		c := anyCert(r)
		for range r.Intn(4) {
			spoilCert(r, &c)
		}
		want, f := encoded(c)
		counts[f.Err]++
		if f != (api.Fault{}) {
			expectRefused(t, "any", c, f)
		} else {
			expectBytes(t, "any", c, want)
		}
		if t.Failed() {
			t.Fatalf("%+v", c)
		}
	}
	if min(counts[api.OK], counts[api.ErrLong], counts[api.ErrArg]) < 200 {
		t.Errorf("%v", counts)
	}
}

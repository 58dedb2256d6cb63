package depth_test

import (
	"math"
	"math/rand"
	"slices"
	"testing"

	"spillway/api"
	"spillway/depth"
)

func span(lo, hi int64) api.Span { return api.Span{Lo: lo, Hi: hi} }

func list(spans ...api.Span) []api.Span { return spans }

func narrow(depth int, part, total api.Span) api.Chan {
	return api.Chan{Width: 16, Depth: depth, Part: part, Total: total}
}

func wide(depth int, part, total api.Span) api.Chan {
	return api.Chan{Width: 32, Depth: depth, Part: part, Total: total}
}

func expectSafe(t *testing.T, name string, m api.Model, op, ch int, s api.Span, k int, want bool, e api.Errno) {
	t.Helper()
	if got, err := depth.Safe(m, op, ch, s, k); got != want || err != e {
		t.Errorf("%s: Safe(%d, %d, %v, %d): %v %d; want %v %d", name, op, ch, s, k, got, int(err), want, int(e))
	}
}

func expectMost(t *testing.T, name string, m api.Model, op, ch int, s api.Span, want int, e api.Errno) {
	t.Helper()
	if got, err := depth.Most(m, op, ch, s); got != want || err != e {
		t.Errorf("%s: Most(%d, %d, %v): %d %d; want %d %d", name, op, ch, s, got, int(err), want, int(e))
	}
}

func expectChoose(t *testing.T, name string, m api.Model, op, ch int, s api.Span, want api.Chan, e api.Errno) {
	t.Helper()
	if got, err := depth.Choose(m, op, ch, s); got != want || err != e {
		t.Errorf("%s: Choose(%d, %d, %v): %v %d; want %v %d", name, op, ch, s, got, int(err), want, int(e))
	}
}

// expectError holds all three calls to an error, whatever the depth is.
func expectError(t *testing.T, name string, m api.Model, op, ch int, s api.Span, e api.Errno) {
	t.Helper()
	for _, k := range []int{1, 2, 0, -1, 513, math.MinInt, math.MaxInt} {
		expectSafe(t, name, m, op, ch, s, k, false, e)
	}
	expectMost(t, name, m, op, ch, s, 0, e)
	expectChoose(t, name, m, op, ch, s, api.Chan{}, e)
}

// holdChannel holds the calls to what the second reading answers: Safe with
// these depths, or with all there are.
func holdChannel(t *testing.T, name string, m api.Model, op, ch int, s api.Span, depths ...int) reading {
	t.Helper()
	if e := aheadOfAll(m, op, ch, s); e != api.OK {
		expectError(t, name, m, op, ch, s, e)
		return reading{}
	}
	r := read(m, op, ch, s)
	if depths == nil {
		depths = upTo(r.length)
	}
	for _, k := range depths {
		expectSafe(t, name, m, op, ch, s, k, both(r.part(k), isInt16), api.OK)
	}
	expectMost(t, name, m, op, ch, s, r.most(), api.OK)
	plan, e := r.chosen()
	expectChoose(t, name, m, op, ch, s, plan, e)
	return r
}

// upTo are the numbers from 1 on.
func upTo(n int) []int {
	list := make([]int, n)
	for i := range list {
		list[i] = i + 1
	}
	return list
}

// place is where a channel is.
type place struct{ op, ch int }

// places are those of all channels of ops that reduce.
func places(m api.Model) []place {
	var all []place
	for _, op := range reducing(m) {
		for ch := range secondChannels(m, op) {
			all = append(all, place{op, ch + 1})
		}
	}
	return all
}

// some are at most so many of a list, the first and the last among them.
func some[T any](all []T, most int) []T {
	if len(all) <= most {
		return all
	}
	var few []T
	for i := range most {
		few = append(few, all[i*(len(all)-1)/(most-1)])
	}
	return few
}

// spansOfValues: of one number, on either side of 0, across it, the widest.
func spansOfValues() []api.Span {
	return list(
		span(0, 0), span(1, 1), span(-1, -1), span(127, 127), span(-128, -128), span(0, 10), span(3, 9), span(100, 127), span(0, 127),
		span(-9, -3), span(-128, -100), span(-128, 0), span(-5, 6), span(-7, 7), span(-127, 126), span(-128, 127),
	)
}

// noneOfValues are spans: Lo above Hi, an end beyond, ends as far out as an
// int64 goes, and such whose low bits would make a span of values.
func noneOfValues() []api.Span {
	const least, most = math.MinInt64, math.MaxInt64
	return list(
		span(5, 4), span(1, 0), span(0, -1), span(127, -128), span(127, 126), span(-127, -128),
		span(-129, 0), span(-129, 127), span(-129, -129), span(0, 128), span(-128, 128), span(128, 128), span(5, 200), span(128, 127), span(-128, -129),
		span(least, most), span(most, least), span(least, least), span(most, most), span(least, 0), span(0, most), span(0, least), span(most, 0),
		span(least, 127), span(-128, most), span(1<<32, 1<<32+10), span(0, 1<<32+10), span(-1<<32, 10), span(256, 266), span(0, 256), span(-256, 0),
	)
}

// farNumbers are numbers that name nothing, and that no depth is; of some the
// low bits would be 1.
func farNumbers() []int {
	return []int{
		math.MinInt, math.MinInt + 1, math.MaxInt, math.MaxInt - 1, -1, -2, 1<<32 + 1, 1 << 32, -1 << 32, -1<<32 + 1, 1<<16 + 1, 1<<62 + 1, math.MaxInt32, math.MinInt32,
	}
}

// depthsThatAreNone are none of an op of that length.
func depthsThatAreNone(length int) []int {
	return append(farNumbers(), 0, length+1, length+2, length+1<<8, length+1<<16, length+1<<32, -length, 513, 1024)
}

// anySpan is a span of values: any, of one number, at an end, or narrow.
func anySpan(r *rand.Rand) api.Span {
	lo := int64(anyValue(r))
	switch r.Intn(5) {
	case 0:
		return span(lo, lo)
	case 1:
		return span(-128, lo)
	case 2:
		return span(lo, 127)
	case 3:
		return span(lo, min(127, lo+int64(r.Intn(4))))
	}
	return span(lo, lo+int64(r.Intn(int(128-lo))))
}

// narrower are spans that s holds.
func narrower(r *rand.Rand, s api.Span) []api.Span {
	a, b := s.Lo+r.Int63n(s.Hi-s.Lo+1), s.Lo+r.Int63n(s.Hi-s.Lo+1)
	all := list(s, span(s.Lo, s.Lo), span(s.Hi, s.Hi), span(min(s.Lo+1, s.Hi), s.Hi), span(s.Lo, max(s.Hi-1, s.Lo)), span(min(a, b), max(a, b)))
	return slices.Compact(all)
}

package witness_test

import (
	"math"
	"math/rand"
	"testing"

	"spillway/api"
	"spillway/witness"
)

func span(lo, hi int64) api.Span { return api.Span{Lo: lo, Hi: hi} }

func list(spans ...api.Span) []api.Span { return spans }

// noWitness holds one beside an error to its zero value, the list nil or empty.
func noWitness(w api.Witness) bool { return w.At == 0 && len(w.X) == 0 }

func noLeak(l api.Leak) bool { return l.At == 0 && l.From == 0 && l.Upto == 0 && len(l.X) == 0 }

func expectNoEnds(t *testing.T, name string, m api.Model, op, ch int, s api.Span, e api.Errno) {
	t.Helper()
	if w, err := witness.Low(m, op, ch, s); !noWitness(w) || err != e {
		t.Errorf("%s: Low(%d, %d, %v): %v %d; want error %d", name, op, ch, s, w, int(err), int(e))
	}
	if w, err := witness.High(m, op, ch, s); !noWitness(w) || err != e {
		t.Errorf("%s: High(%d, %d, %v): %v %d; want error %d", name, op, ch, s, w, int(err), int(e))
	}
}

// expectNoLeak holds Break to a false, with an error or without.
func expectNoLeak(t *testing.T, name string, m api.Model, op, ch int, s api.Span, k int, e api.Errno) {
	t.Helper()
	if l, found, err := witness.Break(m, op, ch, s, k); !noLeak(l) || found || err != e {
		t.Errorf("%s: Break(%d, %d, %v, %d): %v %v %d; want none and error %d", name, op, ch, s, k, l, found, int(err), int(e))
	}
}

// expectError holds all three calls to an error, whatever the depth is.
func expectError(t *testing.T, name string, m api.Model, op, ch int, s api.Span, e api.Errno) {
	t.Helper()
	expectNoEnds(t, name, m, op, ch, s, e)
	for _, k := range []int{1, 2, 0, -1, 513, math.MinInt, math.MaxInt} {
		expectNoLeak(t, name, m, op, ch, s, k, e)
	}
}

// holdEnds holds Low and High to the second reading.
func (r reading) holdEnds(t *testing.T, name string, m api.Model, op, ch int) {
	t.Helper()
	want := r.total()
	if w, e := witness.Low(m, op, ch, r.s); e != api.OK || !r.reaches(w, want.Lo) {
		t.Errorf("%s: Low(%d, %d, %v): %v %d; it doesn't reach %d", name, op, ch, r.s, w, int(e), want.Lo)
	}
	if w, e := witness.High(m, op, ch, r.s); e != api.OK || !r.reaches(w, want.Hi) {
		t.Errorf("%s: High(%d, %d, %v): %v %d; it doesn't reach %d", name, op, ch, r.s, w, int(e), want.Hi)
	}
}

// holdBreak holds Break with that depth to the second reading, and answers the
// leak.
func (r reading) holdBreak(t *testing.T, name string, m api.Model, op, ch, k int) (api.Leak, bool) {
	t.Helper()
	if k < 1 || k > r.length {
		expectNoLeak(t, name, m, op, ch, r.s, k, api.ErrDepth)
		return api.Leak{}, false
	}
	if r.isSafe(k) {
		expectNoLeak(t, name, m, op, ch, r.s, k, api.OK)
		return api.Leak{}, false
	}
	l, found, e := witness.Break(m, op, ch, r.s, k)
	if e != api.OK || !found || !r.isLeak(l, k) {
		t.Errorf("%s: Break(%d, %d, %v, %d): %v %v %d; want a leak", name, op, ch, r.s, k, l, found, int(e))
	}
	return l, found
}

// tally counts what Break answered: none, single products, the first terms of
// blocks, and how many of these blocks were last ones and shorter.
type tally struct{ whole, single, block, shorter int }

func (n *tally) count(l api.Leak, found bool, depth, length int) {
	switch {
	case !found:
		n.whole++
	case l.Upto == l.From+1:
		n.single++
	default:
		n.block++
		if l.From+depth > length {
			n.shorter++
		}
	}
}

func (n *tally) join(other tally) {
	n.whole += other.whole
	n.single += other.single
	n.block += other.block
	n.shorter += other.shorter
}

// holdChannel holds the calls to the second reading: Break with these depths, or
// with all there are and those beside them.
func holdChannel(t *testing.T, name string, m api.Model, op, ch int, s api.Span, depths ...int) tally {
	t.Helper()
	var n tally
	if e := aheadOfAll(m, op, ch, s); e != api.OK {
		expectError(t, name, m, op, ch, s, e)
		return n
	}
	r := read(m, op, ch, s)
	r.holdEnds(t, name, m, op, ch)
	if depths == nil {
		depths = upTo(r.length)
	}
	for _, k := range depths {
		l, found := r.holdBreak(t, name, m, op, ch, k)
		n.count(l, found, k, r.length)
	}
	for _, k := range []int{0, -1, r.length + 1, math.MaxInt} {
		expectNoLeak(t, name, m, op, ch, s, k, api.ErrDepth)
	}
	return n
}

// upTo are the numbers from 1 on.
func upTo(n int) []int {
	list := make([]int, n)
	for i := range list {
		list[i] = i + 1
	}
	return list
}

// place is where a channel is.
type place struct{ op, ch int }

// places are those of all channels of ops that reduce.
func places(m api.Model) []place {
	var all []place
	for _, op := range reducing(m) {
		for ch := range secondChannels(m, op) {
			all = append(all, place{op, ch + 1})
		}
	}
	return all
}

// some are at most so many of a list, the first and the last among them.
func some[T any](all []T, most int) []T {
	if len(all) <= most {
		return all
	}
	var few []T
	for i := range most {
		few = append(few, all[i*(len(all)-1)/(most-1)])
	}
	return few
}

// spansOfValues: of one number, on either side of 0, across it, the widest.
func spansOfValues() []api.Span {
	return list(
		span(0, 0), span(1, 1), span(-1, -1), span(127, 127), span(-128, -128), span(0, 10), span(3, 9), span(100, 127), span(0, 127),
		span(-9, -3), span(-128, -100), span(-128, 0), span(-5, 6), span(-7, 7), span(-127, 126), span(-128, 127),
	)
}

// noneOfValues are spans: Lo above Hi, an end beyond, ends as far out as an
// int64 goes, and such whose low bits would make a span of values.
func noneOfValues() []api.Span {
	const least, most = math.MinInt64, math.MaxInt64
	return list(
		span(5, 4), span(1, 0), span(0, -1), span(127, -128), span(127, 126), span(-127, -128),
		span(-129, 0), span(-129, 127), span(-129, -129), span(0, 128), span(-128, 128), span(128, 128), span(5, 200), span(128, 127), span(-128, -129),
		span(least, most), span(most, least), span(least, least), span(most, most), span(least, 0), span(0, most), span(0, least), span(most, 0),
		span(least, 127), span(-128, most), span(1<<32, 1<<32+10), span(0, 1<<32+10), span(-1<<32, 10), span(256, 266), span(0, 256), span(-256, 0),
	)
}

// farNumbers are numbers that name nothing, and that no depth is; of some the
// low bits would be 1.
func farNumbers() []int {
	return []int{
		math.MinInt, math.MinInt + 1, math.MaxInt, math.MaxInt - 1, -1, -2, 1<<32 + 1, 1 << 32, -1 << 32, -1<<32 + 1, 1<<16 + 1, 1<<62 + 1, math.MaxInt32, math.MinInt32,
	}
}

// depthsThatAreNone are none of an op of that length.
func depthsThatAreNone(length int) []int {
	return append(farNumbers(), 0, length+1, length+2, length+1<<8, length+1<<16, length+1<<32, -length, 513, 1024)
}

// anySpan is a span of values: any, of one number, at an end, or narrow.
func anySpan(r *rand.Rand) api.Span {
	lo := int64(anyValue(r))
	switch r.Intn(5) {
	case 0:
		return span(lo, lo)
	case 1:
		return span(-128, lo)
	case 2:
		return span(lo, 127)
	case 3:
		return span(lo, min(127, lo+int64(r.Intn(4))))
	}
	return span(lo, lo+int64(r.Intn(int(128-lo))))
}

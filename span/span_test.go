package span_test

import (
	"math"
	"math/big"
	"testing"

	"spillway/api"
	"spillway/fixq"
	"spillway/num"
	"spillway/span"
)

const (
	least    = math.MinInt64
	greatest = math.MaxInt64
	reach    = 1 << 32
)

func of(lo, hi int64) api.Span { return api.Span{Lo: lo, Hi: hi} }

// numbers are both ends of int64 and of what a scale takes, one within and one
// beyond each, the halves of int64, and small ones.
func numbers() []int64 {
	return []int64{
		least, least + 1, -1<<62 - 1, -1 << 62, -reach - 1, -reach, -reach + 1, -128, -3, -2, -1, 0,
		1, 2, 3, 127, reach - 1, reach, reach + 1, 1<<62 - 1, 1 << 62, greatest - 1, greatest,
	}
}

// spans are all pairs of these numbers, so that half of them aren't valid and
// some are of one number.
func spans() []api.Span {
	var list []api.Span
	for _, lo := range numbers() {
		for _, hi := range numbers() {
			list = append(list, of(lo, hi))
		}
	}
	return list
}

// eachPair calls f with every pair of spans.
func eachPair(f func(a, b api.Span)) {
	for _, a := range spans() {
		for _, b := range spans() {
			f(a, b)
		}
	}
}

// members are the numbers from -1 to 5 that a holds, gone through one by one.
func members(a api.Span) []int64 {
	var list []int64
	for x := int64(-1); x <= 5; x++ {
		if x < a.Lo || x > a.Hi {
			continue
		}
		list = append(list, x)
	}
	return list
}

// narrowSpans are all pairs of 0 to 4, whose members are few enough to be
// gone through.
func narrowSpans() []api.Span {
	var list []api.Span
	for lo := range int64(5) {
		for hi := range int64(5) {
			list = append(list, of(lo, hi))
		}
	}
	return list
}

// narrowest is the least span that holds all of the list, which isn't empty.
func narrowest(list []*big.Int) (lo, hi *big.Int) {
	lo, hi = list[0], list[0]
	for _, x := range list {
		if x.Cmp(lo) < 0 {
			lo = x
		}
		if x.Cmp(hi) > 0 {
			hi = x
		}
	}
	return lo, hi
}

// spanOf is the span that a call owes: ErrOver where an end isn't an int64.
func spanOf(lo, hi *big.Int) (api.Span, api.Errno) {
	if !lo.IsInt64() || !hi.IsInt64() {
		return api.Span{}, api.ErrOver
	}
	return of(lo.Int64(), hi.Int64()), api.OK
}

func expect(t *testing.T, what string, got api.Span, e api.Errno, want api.Span, wantErr api.Errno) {
	t.Helper()
	if got != want || e != wantErr {
		t.Errorf("%s = %v, %d; want %v, %d", what, got, e, want, wantErr)
	}
}

// P3.1: Make and Valid at all pairs.
func TestMakeAndValid(t *testing.T) {
	for _, a := range spans() {
		want, wantErr := a, api.OK
		if a.Lo > a.Hi {
			want, wantErr = api.Span{}, api.ErrSpan
		}
		got, e := span.Make(a.Lo, a.Hi)
		expect(t, "Make", got, e, want, wantErr)
		if got := span.Valid(a); got != (wantErr == api.OK) {
			t.Errorf("Valid(%v) = %t", a, got)
		}
	}
}

// P3.1: Has, at both ends, within, beside, and of spans that aren't valid.
func TestHas(t *testing.T) {
	for _, a := range narrowSpans() {
		held := map[int64]int{}
		for _, x := range members(a) {
			held[x]++
		}
		for x := int64(-1); x <= 5; x++ {
			if got := span.Has(a, x); got != (held[x] == 1) {
				t.Errorf("Has(%v, %d) = %t", a, x, got)
			}
		}
	}
	for _, c := range []struct {
		a    api.Span
		x    int64
		want bool
	}{
		{of(1, 5), 5, true}, {of(1, 5), 1, true}, {of(1, 5), 6, false}, {of(1, 5), 0, false},
		{of(5, 1), 3, false}, {of(5, 1), 5, false}, {of(5, 1), 1, false}, {of(7, 7), 7, true},
		{of(least, greatest), least, true}, {of(least, greatest), greatest, true},
		{of(greatest, least), 0, false}, {of(greatest, least), least, false},
		{of(greatest, greatest), greatest, true}, {of(greatest, greatest), least, false},
		{of(least, least), least, true}, {of(least, least), greatest, false},
	} {
		if got := span.Has(c.a, c.x); got != c.want {
			t.Errorf("Has(%v, %d) = %t", c.a, c.x, got)
		}
	}
}

// P3.1: Holds, by the words: both ends of a valid span.
func TestHolds(t *testing.T) {
	eachPair(func(a, b api.Span) {
		want := a.Lo <= a.Hi && b.Lo <= b.Hi && a.Lo <= b.Lo && b.Hi <= a.Hi
		if got := span.Holds(a, b); got != want {
			t.Errorf("Holds(%v, %v) = %t", a, b, got)
		}
	})
}

// P3.1: one that isn't valid neither holds nor is held, were it both times the same.
func TestHoldsOfNone(t *testing.T) {
	for _, c := range []struct {
		a, b api.Span
		want bool
	}{
		{of(1, 5), of(2, 5), true}, {of(1, 5), of(1, 5), true}, {of(1, 5), of(5, 2), false},
		{of(5, 1), of(2, 3), false}, {of(5, 1), of(5, 1), false}, {of(5, 2), of(5, 5), false},
		{of(1, 5), of(0, 5), false}, {of(1, 5), of(1, 6), false}, {of(1, 5), of(6, 9), false},
		{of(3, 3), of(3, 3), true}, {of(least, greatest), of(greatest, least), false},
	} {
		if got := span.Holds(c.a, c.b); got != c.want {
			t.Errorf("Holds(%v, %v) = %t", c.a, c.b, got)
		}
	}
}

// P3.2: Hull is valid, holds both, and its ends are ends of theirs.
func TestHull(t *testing.T) {
	eachPair(func(a, b api.Span) {
		got, e := span.Hull(a, b)
		if a.Lo > a.Hi || b.Lo > b.Hi {
			expect(t, "Hull", got, e, api.Span{}, api.ErrSpan)
			return
		}
		ends := []*big.Int{big.NewInt(a.Lo), big.NewInt(a.Hi), big.NewInt(b.Lo), big.NewInt(b.Hi)}
		want, _ := spanOf(narrowest(ends))
		expect(t, "Hull", got, e, want, api.OK)
	})
}

// P3.2: Meet, number by number.
func TestMeetNumberByNumber(t *testing.T) {
	for _, a := range narrowSpans() {
		for _, b := range narrowSpans() {
			var both []*big.Int
			for _, x := range members(a) {
				if b.Lo <= x && x <= b.Hi {
					both = append(both, big.NewInt(x))
				}
			}
			want := api.Span{}
			if len(both) > 0 {
				want, _ = spanOf(narrowest(both))
			}
			if got, ok := span.Meet(a, b); got != want || ok != (len(both) > 0) {
				t.Errorf("Meet(%v, %v) = %v, %t; want %v", a, b, got, ok, want)
			}
		}
	}
}

// P3.2: Meet of spans that touch, that don't, and that aren't valid, up to the ends of int64.
func TestMeetAtEdges(t *testing.T) {
	for _, c := range []struct {
		a, b, want api.Span
		ok         bool
	}{
		{of(1, 5), of(4, 9), of(4, 5), true}, {of(4, 9), of(1, 5), of(4, 5), true},
		{of(1, 4), of(4, 9), of(4, 4), true}, {of(4, 9), of(1, 4), of(4, 4), true},
		{of(1, 2), of(3, 4), of(0, 0), false}, {of(3, 4), of(1, 2), of(0, 0), false},
		{of(1, 9), of(3, 4), of(3, 4), true}, {of(3, 4), of(1, 9), of(3, 4), true},
		{of(1, 9), of(4, 3), of(0, 0), false}, {of(4, 3), of(1, 9), of(0, 0), false},
		{of(4, 3), of(4, 3), of(0, 0), false}, {of(4, 3), of(3, 4), of(0, 0), false},
		{of(least, greatest), of(least, greatest), of(least, greatest), true},
		{of(least, greatest), of(greatest, greatest), of(greatest, greatest), true},
		{of(least, greatest), of(least, least), of(least, least), true},
		{of(least, greatest), of(greatest, least), of(0, 0), false},
		{of(least, -1), of(0, greatest), of(0, 0), false},
	} {
		if got, ok := span.Meet(c.a, c.b); got != c.want || ok != c.ok {
			t.Errorf("Meet(%v, %v) = %v, %t; want %v, %t", c.a, c.b, got, ok, c.want, c.ok)
		}
	}
}

type combine func(z, x, y *big.Int) *big.Int

// combined is the span of what comes of each end of a with each end of b, in
// whole numbers without end: sums, differences and products have their least
// and their greatest at ends.
func combined(a, b api.Span, by combine) (api.Span, api.Errno) {
	if a.Lo > a.Hi || b.Lo > b.Hi {
		return api.Span{}, api.ErrSpan
	}
	var list []*big.Int
	for _, u := range []int64{a.Lo, a.Hi} {
		for _, v := range []int64{b.Lo, b.Hi} {
			list = append(list, by(new(big.Int), big.NewInt(u), big.NewInt(v)))
		}
	}
	return spanOf(narrowest(list))
}

// P3.3: Add and Sub of all pairs.
func TestAddAndSub(t *testing.T) {
	eachPair(func(a, b api.Span) {
		want, wantErr := combined(a, b, (*big.Int).Add)
		got, e := span.Add(a, b)
		if got != want || e != wantErr {
			t.Errorf("Add(%v, %v) = %v, %d; want %v, %d", a, b, got, e, want, wantErr)
		}
		want, wantErr = combined(a, b, (*big.Int).Sub)
		got, e = span.Sub(a, b)
		if got != want || e != wantErr {
			t.Errorf("Sub(%v, %v) = %v, %d; want %v, %d", a, b, got, e, want, wantErr)
		}
	})
}

// P3.3: Times of all spans by all numbers.
func TestTimes(t *testing.T) {
	for _, a := range spans() {
		for _, k := range numbers() {
			want, wantErr := combined(a, of(k, k), (*big.Int).Mul)
			if got, e := span.Times(a, k); got != want || e != wantErr {
				t.Errorf("Times(%v, %d) = %v, %d; want %v, %d", a, k, got, e, want, wantErr)
			}
		}
	}
}

// P3.3: every sum, difference and product of narrow spans, number by number.
func TestSumsNumberByNumber(t *testing.T) {
	for _, a := range narrowSpans() {
		for _, b := range narrowSpans() {
			if a.Lo > a.Hi || b.Lo > b.Hi {
				continue
			}
			var sums, diffs []*big.Int
			for _, u := range members(a) {
				for _, v := range members(b) {
					sums, diffs = append(sums, big.NewInt(u+v)), append(diffs, big.NewInt(u-v))
				}
			}
			want, _ := spanOf(narrowest(sums))
			got, e := span.Add(a, b)
			expect(t, "Add", got, e, want, api.OK)
			want, _ = spanOf(narrowest(diffs))
			got, e = span.Sub(a, b)
			expect(t, "Sub", got, e, want, api.OK)
		}
	}
}

// P3.3: the ends of int64, reached and left by one, at either end of the span.
func TestSumsAtTheEndsOfInt64(t *testing.T) {
	for _, c := range []struct {
		what    string
		got     func() (api.Span, api.Errno)
		want    api.Span
		wantErr api.Errno
	}{
		{"Add up to the top", func() (api.Span, api.Errno) { return span.Add(of(0, greatest-1), of(0, 1)) }, of(0, greatest), 0},
		{"Add above the top", func() (api.Span, api.Errno) { return span.Add(of(0, greatest), of(0, 1)) }, of(0, 0), api.ErrOver},
		{"Add down to the bottom", func() (api.Span, api.Errno) { return span.Add(of(least+1, 0), of(-1, 0)) }, of(least, 0), 0},
		{"Add below the bottom", func() (api.Span, api.Errno) { return span.Add(of(least, 0), of(-1, 0)) }, of(0, 0), api.ErrOver},
		{"Sub up to the top", func() (api.Span, api.Errno) { return span.Sub(of(-1, -1), of(least, 0)) }, of(-1, greatest), 0},
		{"Sub above the top", func() (api.Span, api.Errno) { return span.Sub(of(-1, 0), of(least, 0)) }, of(0, 0), api.ErrOver},
		{"Sub down to the bottom", func() (api.Span, api.Errno) { return span.Sub(of(-1, 0), of(0, greatest)) }, of(least, 0), 0},
		{"Sub below the bottom", func() (api.Span, api.Errno) { return span.Sub(of(-2, 0), of(0, greatest)) }, of(0, 0), api.ErrOver},
		{"Times 0", func() (api.Span, api.Errno) { return span.Times(of(least, greatest), 0) }, of(0, 0), 0},
		{"Times 1", func() (api.Span, api.Errno) { return span.Times(of(least, greatest), 1) }, of(least, greatest), 0},
		{"Times -1", func() (api.Span, api.Errno) { return span.Times(of(least+1, greatest), -1) }, of(least+1, greatest), 0},
		{"Times -1 of the bottom", func() (api.Span, api.Errno) { return span.Times(of(least, 0), -1) }, of(0, 0), api.ErrOver},
		{"Times the bottom", func() (api.Span, api.Errno) { return span.Times(of(0, 1), least) }, of(least, 0), 0},
		{"Times the bottom of -1", func() (api.Span, api.Errno) { return span.Times(of(-1, 1), least) }, of(0, 0), api.ErrOver},
	} {
		got, e := c.got()
		expect(t, c.what, got, e, c.want, c.wantErr)
	}
}

// P3.3: a span that isn't valid is told, beside any other and ahead of ErrOver.
func TestSumsOfNone(t *testing.T) {
	for _, bad := range []api.Span{of(2, 1), of(greatest, least), of(0, -1), of(greatest, greatest-1)} {
		for _, other := range []api.Span{of(0, 0), of(least, greatest), of(greatest, greatest), of(2, 1)} {
			got, e := span.Add(bad, other)
			expect(t, "Add", got, e, api.Span{}, api.ErrSpan)
			got, e = span.Add(other, bad)
			expect(t, "Add", got, e, api.Span{}, api.ErrSpan)
			got, e = span.Sub(bad, other)
			expect(t, "Sub", got, e, api.Span{}, api.ErrSpan)
			got, e = span.Sub(other, bad)
			expect(t, "Sub", got, e, api.Span{}, api.ErrSpan)
		}
		for _, k := range []int64{0, 1, -1, 2, least, greatest} {
			got, e := span.Times(bad, k)
			expect(t, "Times", got, e, api.Span{}, api.ErrSpan)
		}
	}
}

func scales() []api.Scale {
	return []api.Scale{
		{Mult: 1}, {Mult: 3, Shift: 2}, {Mult: 1, Shift: 1}, {Mult: 1, Shift: api.MaxShift},
		{Mult: math.MaxInt32}, {Mult: math.MaxInt32, Shift: 31}, {Mult: math.MaxInt32, Shift: api.MaxShift},
		{}, {Mult: -1}, {Mult: math.MaxInt32 + 1}, {Mult: 1, Shift: -1}, {Mult: 1, Shift: api.MaxShift + 1},
		{Mult: math.MinInt64, Shift: math.MaxInt64},
	}
}

// inReach: is it a number that a scale takes?
func inReach(x int64) bool { return -reach <= x && x <= reach }

// P3.4: all spans by scales that are valid and such that aren't, the errors in their order.
func TestScaled(t *testing.T) {
	for _, s := range scales() {
		for _, a := range spans() {
			want, wantErr := api.Span{}, api.OK
			switch {
			case a.Lo > a.Hi:
				wantErr = api.ErrSpan
			case !fixq.Valid(s):
				wantErr = api.ErrScale
			case !inReach(a.Lo) || !inReach(a.Hi):
				wantErr = api.ErrOver
			default:
				want.Lo, _ = fixq.Apply(a.Lo, s)
				want.Hi, _ = fixq.Apply(a.Hi, s)
			}
			if got, e := span.Scaled(a, s); got != want || e != wantErr {
				t.Errorf("Scaled(%v, %v) = %v, %d; want %v, %d", a, s, got, e, want, wantErr)
			}
		}
	}
}

// P3.4: the ends of what a scale takes, and one beyond each, by name.
func TestScaledAtItsEnds(t *testing.T) {
	half, one := api.Scale{Mult: 1, Shift: 1}, api.Scale{Mult: 1}
	for _, c := range []struct {
		a       api.Span
		s       api.Scale
		want    api.Span
		wantErr api.Errno
	}{
		{of(-reach, reach), one, of(-reach, reach), 0},
		{of(-reach, reach), half, of(-reach/2, reach/2), 0},
		{of(-reach-1, reach), one, of(0, 0), api.ErrOver},
		{of(-reach, reach+1), one, of(0, 0), api.ErrOver},
		{of(reach+1, reach+1), one, of(0, 0), api.ErrOver},
		{of(-reach-1, -reach-1), one, of(0, 0), api.ErrOver},
		{of(-3, 3), half, of(-2, 2), 0}, {of(5, 5), half, of(3, 3), 0},
		{of(reach+1, 0), api.Scale{}, of(0, 0), api.ErrSpan},
		{of(0, reach+1), api.Scale{}, of(0, 0), api.ErrScale},
	} {
		got, e := span.Scaled(c.a, c.s)
		expect(t, "Scaled", got, e, c.want, c.wantErr)
	}
}

// P3.5: all spans, clamped to all ranges.
func TestClamped(t *testing.T) {
	eachPair(func(a, to api.Span) {
		want, wantErr := api.Span{}, api.ErrSpan
		if a.Lo <= a.Hi && to.Lo <= to.Hi {
			want, wantErr = of(num.Clamp(a.Lo, to.Lo, to.Hi), num.Clamp(a.Hi, to.Lo, to.Hi)), api.OK
		}
		if got, e := span.Clamped(a, to.Lo, to.Hi); got != want || e != wantErr {
			t.Errorf("Clamped(%v, %d, %d) = %v, %d; want %v, %d", a, to.Lo, to.Hi, got, e, want, wantErr)
		}
	})
}

// P3.5: below, across, within and above the range, and what isn't one.
func TestClampedByName(t *testing.T) {
	for _, c := range []struct {
		a       api.Span
		lo, hi  int64
		want    api.Span
		wantErr api.Errno
	}{
		{of(-500, 50), -128, 127, of(-128, 50), 0}, {of(200, 300), -128, 127, of(127, 127), 0},
		{of(-300, -200), -128, 127, of(-128, -128), 0}, {of(-500, 500), -128, 127, of(-128, 127), 0},
		{of(-5, 5), -128, 127, of(-5, 5), 0}, {of(-5, 5), 3, 3, of(3, 3), 0},
		{of(least, greatest), least, greatest, of(least, greatest), 0},
		{of(5, -5), -128, 127, of(0, 0), api.ErrSpan}, {of(-5, 5), 127, -128, of(0, 0), api.ErrSpan},
		{of(5, -5), 127, -128, of(0, 0), api.ErrSpan}, {of(-5, 5), 1, 0, of(0, 0), api.ErrSpan},
	} {
		got, e := span.Clamped(c.a, c.lo, c.hi)
		expect(t, "Clamped", got, e, c.want, c.wantErr)
	}
}

// The chapter's examples: of 1 what the tables above haven't, and 2 and 3.
func TestExamples(t *testing.T) {
	got, e := span.Make(3, 2)
	expect(t, "Make", got, e, of(0, 0), api.ErrSpan)
	got, e = span.Hull(of(1, 2), of(7, 9))
	expect(t, "Hull", got, e, of(1, 9), api.OK)
	got, e = span.Add(of(1, 2), of(10, 20))
	expect(t, "Add", got, e, of(11, 22), api.OK)
	got, e = span.Sub(of(1, 2), of(10, 20))
	expect(t, "Sub", got, e, of(-19, -8), api.OK)
	got, e = span.Times(of(1, 2), -3)
	expect(t, "Times", got, e, of(-6, -3), api.OK)
	got, e = span.Times(of(-1, 1<<62), 2)
	expect(t, "Times", got, e, of(0, 0), api.ErrOver)
	got, e = span.Scaled(of(-10, 10), api.Scale{Mult: 3, Shift: 2})
	expect(t, "Scaled", got, e, of(-8, 8), api.OK)
}

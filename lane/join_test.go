package lane_test

import (
	"math"
	"math/rand"
	"testing"

	"spillway/api"
	"spillway/lane"
)

func expectJoin(t *testing.T, name string, a, b, want api.Track) {
	t.Helper()
	if got := lane.Join(a, b); got != want {
		t.Errorf("%s: Join of %+v, %+v = %+v; want %+v", name, a, b, got, want)
	}
}

// expectJoinBothWays holds Join to an answer, whichever comes first.
func expectJoinBothWays(t *testing.T, name string, a, b, want api.Track) {
	t.Helper()
	expectJoin(t, name, a, b, want)
	expectJoin(t, name+", turned", b, a, want)
}

// P20.4: counts are added up, and lows and highs are those of both.
func TestJoin(t *testing.T) {
	a := api.Track{Muls16: 1, Adds16: 20, Muls32: 300, Adds32: 4000, Wraps: 50000, Low16: -7, High16: 9, Low32: -100, High32: 50}
	b := api.Track{Muls16: 2, Adds16: 30, Muls32: 400, Adds32: 5000, Wraps: 60000, Low16: -8, High16: 8, Low32: -90, High32: 60}
	want := api.Track{Muls16: 3, Adds16: 50, Muls32: 700, Adds32: 9000, Wraps: 110000, Low16: -8, High16: 9, Low32: -100, High32: 60}
	expectJoinBothWays(t, "both have all", a, b, want)
	expectJoinBothWays(t, "nothing and nothing", api.Track{}, api.Track{}, api.Track{})
	expectJoinBothWays(t, "with nothing", a, api.Track{}, a)
	expectJoin(t, "with itself", a, a,
		api.Track{Muls16: 2, Adds16: 40, Muls32: 600, Adds32: 8000, Wraps: 100000, Low16: -7, High16: 9, Low32: -100, High32: 50})
	above := api.Track{Adds16: 1, Low16: 3, High16: 4, Adds32: 1, Low32: 10, High32: 11}
	below := api.Track{Adds16: 1, Low16: -4, High16: -3, Adds32: 1, Low32: -11, High32: -10}
	expectJoinBothWays(t, "above and below 0", above, below, api.Track{Adds16: 2, Low16: -4, High16: 4, Adds32: 2, Low32: -11, High32: 11})
}

// P20.4: where one has no sums of a width, the other's ends stand alone, though
// they lie on one side of 0, and whatever the first's are.
func TestJoinWithoutSums(t *testing.T) {
	short := api.Track{Muls16: 2, Adds16: 2, Low16: 20, High16: 30}
	long := api.Track{Muls32: 2, Adds32: 2, Low32: -31, High32: -21}
	both := api.Track{Muls16: 2, Adds16: 2, Muls32: 2, Adds32: 2, Low16: 20, High16: 30, Low32: -31, High32: -21}
	expectJoinBothWays(t, "one width each", short, long, both)
	expectJoinBothWays(t, "both widths, and nothing", both, api.Track{}, both)

	odd := api.Track{Muls16: 1, Wraps: 1, Low16: -99, High16: 99, Low32: -999, High32: 999}
	shortOdd, longOdd, bothOdd := short, long, both
	shortOdd.Muls16, shortOdd.Wraps = 3, 1
	longOdd.Muls16, longOdd.Wraps = 1, 1
	bothOdd.Muls16, bothOdd.Wraps = 3, 1
	expectJoinBothWays(t, "sums of 16 bits alone", short, odd, shortOdd)
	expectJoinBothWays(t, "sums of 32 bits alone", long, odd, longOdd)
	expectJoinBothWays(t, "sums of both", both, odd, bothOdd)
	expectJoin(t, "no sums at all", odd, odd, api.Track{Muls16: 2, Wraps: 2})
	expectJoinBothWays(t, "no sums, but ends", api.Track{Low16: 9}, api.Track{High32: -9}, api.Track{})
}

// P20.4: counts wrap round as ints do, below 0 too; a count that isn't 0 stands
// for sums, whatever it comes to.
func TestJoinOfCountsThatWrap(t *testing.T) {
	most := api.Track{Muls16: math.MaxInt, Adds16: math.MaxInt, Muls32: math.MaxInt, Adds32: math.MaxInt, Wraps: math.MaxInt, Low16: 1, High16: 2, Low32: 3, High32: 4}
	one := api.Track{Muls16: 1, Adds16: 1, Muls32: 1, Adds32: 1, Wraps: 1, Low16: 0, High16: 3, Low32: 5, High32: 5}
	least := api.Track{Muls16: math.MinInt, Adds16: math.MinInt, Muls32: math.MinInt, Adds32: math.MinInt, Wraps: math.MinInt, Low16: 0, High16: 3, Low32: 3, High32: 5}
	expectJoinBothWays(t, "over the end", most, one, least)
	expectJoin(t, "the least twice", least, least, api.Track{Low16: 0, High16: 3, Low32: 3, High32: 5})
	minus := api.Track{Adds16: -5, Low16: -4, High16: -3, Adds32: -6, Low32: -2, High32: -1}
	plus := api.Track{Adds16: 5, Low16: 7, High16: 8, Adds32: 6, Low32: 9, High32: 10}
	expectJoinBothWays(t, "counts that come to 0", minus, plus, api.Track{Low16: -4, High16: 8, Low32: -2, High32: 10})
	expectJoinBothWays(t, "a count below 0, and nothing", minus, api.Track{Low16: -9, High16: 9, Low32: -9, High32: 9}, minus)
	turned := api.Track{Adds16: 1, Low16: 5, High16: -5, Adds32: 1, Low32: math.MaxInt, High32: math.MinInt}
	expectJoinBothWays(t, "a low above its high", turned, plus,
		api.Track{Adds16: 6, Low16: 5, High16: 8, Adds32: 7, Low32: 9, High32: 10})
}

func anyCount(r *rand.Rand) int {
	return anyOf(r, 0, 0, 1, -1, r.Intn(1000), math.MaxInt, math.MinInt, int(r.Uint64()))
}

// anyTrack has numbers of any kind in its fields.
func anyTrack(r *rand.Rand) api.Track {
	return api.Track{
		Muls16: anyCount(r), Adds16: anyCount(r), Muls32: anyCount(r), Adds32: anyCount(r), Wraps: anyCount(r),
		Low16: anyCount(r), High16: anyCount(r), Low32: anyCount(r), High32: anyCount(r),
	}
}

// P20.4, and P1: numbers of any kind.
func TestJoinAtRandom(t *testing.T) {
	r := rand.New(rand.NewSource(10))
	for range 200000 {
		a, b := anyTrack(r), anyTrack(r)
		expectJoin(t, "random", a, b, secondJoin(a, b))
	}
}

// P20.4, P20.3: lists cut between two blocks, the second beginning with the
// first's register, do what the whole ones do.
func TestJoinOfDotsOneBehindTheOther(t *testing.T) {
	r := rand.New(rand.NewSource(11))
	cuts := 0
	for range 20000 {
		c := anyCase(r)
		each := 1
		if c.width == 16 {
			each = c.depth
		}
		cut := each * r.Intn((len(c.ws)+each-1)/each)
		if cut == 0 {
			continue
		}
		cuts++
		front, back := c, c
		front.ws, front.xs, back.ws, back.xs = c.ws[:cut], c.xs[:cut], c.ws[cut:], c.xs[cut:]
		front.depth, back.depth = min(c.depth, len(front.ws)), min(c.depth, len(back.ws))
		between, first, e := front.dot()
		back.bias = between
		end, second, f := back.dot()
		whole, track, g := c.dot()
		if e != api.OK || f != api.OK || g != api.OK || end != whole || lane.Join(first, second) != track {
			t.Errorf("%+v cut at %d: %d, %+v; whole: %d, %+v", c, cut, end, lane.Join(first, second), whole, track)
		}
	}
	if cuts < 5000 {
		t.Errorf("%d cuts", cuts)
	}
}

// P20.4: what a Dot of one width and a Dot of the other did.
func TestJoinOfDotsOfBothWidths(t *testing.T) {
	r := rand.New(rand.NewSource(12))
	for range 5000 {
		short, long := anyCase(r), anyCase(r)
		short.width, short.depth = 16, 1+r.Intn(len(short.ws))
		long.width, long.depth = 32, len(long.ws)
		_, a, _ := short.dot()
		_, b, _ := long.dot()
		want := a
		want.Muls32, want.Adds32 = b.Muls32, a.Adds32+b.Adds32
		want.Wraps = a.Wraps + b.Wraps
		want.Low32, want.High32 = min(a.Low32, b.Low32), max(a.High32, b.High32)
		expectJoinBothWays(t, "both widths", a, b, want)
	}
}

package lane_test

import (
	"math"
	"math/rand"
	"slices"
	"testing"

	"spillway/api"
	"spillway/lane"
)

func weights(ws ...int16) []int16 { return ws }

func numbers(xs ...int8) []int8 { return xs }

// dotCase is what Dot is handed.
type dotCase struct {
	ws           []int16
	xs           []int8
	width, depth int
	bias         int32
}

func (c dotCase) dot() (int32, api.Track, api.Errno) {
	return lane.Dot(c.ws, c.xs, c.width, c.depth, c.bias)
}

// expectDot holds Dot to an answer without an error.
func expectDot(t *testing.T, name string, c dotCase, want int32, track api.Track) {
	t.Helper()
	if got, x, e := c.dot(); got != want || x != track || e != api.OK {
		t.Errorf("%s: Dot = %d, %+v, %v; want %d, %+v", name, got, x, e, want, track)
	}
}

// expectError holds Dot to an error, beside which there is nothing.
func expectError(t *testing.T, c dotCase, want api.Errno) {
	t.Helper()
	if got, x, e := c.dot(); got != 0 || x != (api.Track{}) || e != want {
		t.Errorf("Dot of %d, %d elements, width %d, depth %d = %d, %+v, %v; want error %d", len(c.ws), len(c.xs), c.width, c.depth, got, x, e, want)
	}
}

// holdDot holds Dot to what the second reading answers, and gives that.
func holdDot(t *testing.T, c dotCase) (int32, api.Track) {
	t.Helper()
	want, track, e := secondDot(c.ws, c.xs, c.width, c.depth, c.bias)
	if e != api.OK {
		expectError(t, c, e)
		return 0, api.Track{}
	}
	if got, x, e := c.dot(); got != want || x != track || e != api.OK {
		t.Errorf("Dot of %+v = %d, %+v, %v; want %d, %+v", c, got, x, e, want, track)
	}
	return want, track
}

// P20.3: the chapter's examples 2 and 3.
func TestDotOfTheChapter(t *testing.T) {
	ws, xs := weights(3, -2), numbers(10, 5)
	expectDot(t, "one block", dotCase{ws, xs, 16, 2, 1}, 21,
		api.Track{Muls16: 2, Adds16: 2, Adds32: 1, Low16: 20, High16: 30, Low32: 21, High32: 21})
	expectDot(t, "two blocks", dotCase{ws, xs, 16, 1, 1}, 21,
		api.Track{Muls16: 2, Adds16: 2, Adds32: 2, Low16: -10, High16: 30, Low32: 21, High32: 31})
	expectDot(t, "32 wide", dotCase{ws, xs, 32, 2, 1}, 21,
		api.Track{Muls32: 2, Adds32: 2, Low32: 21, High32: 31})
	ws, xs = weights(200, 200), numbers(127, 127)
	expectDot(t, "a sum of 16 bits wraps", dotCase{ws, xs, 16, 2, 0}, -14736,
		api.Track{Muls16: 2, Adds16: 2, Adds32: 1, Wraps: 1, Low16: -14736, High16: 25400, Low32: -14736, High32: -14736})
	expectDot(t, "no block of two", dotCase{ws, xs, 16, 1, 0}, 50800,
		api.Track{Muls16: 2, Adds16: 2, Adds32: 2, Low16: 25400, High16: 25400, Low32: 25400, High32: 50800})
}

// P20.3: products that wrap, sums of 16 bits that do, and the lows and highs
// that are in the register behind it.
func TestWrapsOf16Bits(t *testing.T) {
	expectDot(t, "a product", dotCase{weights(300), numbers(127), 16, 1, 0}, -27436,
		api.Track{Muls16: 1, Adds16: 1, Adds32: 1, Wraps: 1, Low16: -27436, High16: -27436, Low32: -27436, High32: -27436})
	expectDot(t, "a product to the least", dotCase{weights(-256), numbers(-128), 16, 1, 0}, -32768,
		api.Track{Muls16: 1, Adds16: 1, Adds32: 1, Wraps: 1, Low16: -32768, High16: -32768, Low32: -32768, High32: -32768})
	expectDot(t, "a product that is the least", dotCase{weights(256), numbers(-128), 16, 1, 0}, -32768,
		api.Track{Muls16: 1, Adds16: 1, Adds32: 1, Low16: -32768, High16: -32768, Low32: -32768, High32: -32768})
	expectDot(t, "a product to 0", dotCase{weights(512, 1), numbers(-128, 7), 16, 2, 0}, 7,
		api.Track{Muls16: 2, Adds16: 2, Adds32: 1, Wraps: 1, Low16: 0, High16: 7, Low32: 7, High32: 7})
	expectDot(t, "two products and a sum of them", dotCase{weights(-256, -256), numbers(-128, -128), 16, 2, 5}, 5,
		api.Track{Muls16: 2, Adds16: 2, Adds32: 1, Wraps: 3, Low16: -32768, High16: 0, Low32: 5, High32: 5})
	expectDot(t, "up and back down", dotCase{weights(32767, 1, 1), numbers(1, 1, -1), 16, 3, 0}, 32767,
		api.Track{Muls16: 3, Adds16: 3, Adds32: 1, Wraps: 2, Low16: -32768, High16: 32767, Low32: 32767, High32: 32767})
	expectDot(t, "a wrap in one block alone", dotCase{weights(32767, 1, 1, 1), numbers(1, 1, -1, 0), 16, 2, 0}, -32769,
		api.Track{Muls16: 4, Adds16: 4, Adds32: 2, Wraps: 1, Low16: -32768, High16: 32767, Low32: -32769, High32: -32768})
	expectDot(t, "the same, 32 wide", dotCase{weights(32767, 1, 1, 1), numbers(1, 1, -1, 0), 32, 4, 0}, 32767,
		api.Track{Muls32: 4, Adds32: 4, Low32: 32767, High32: 32768})
}

// P20.3: the register of 32 bits wraps, by its bias, too.
func TestWrapsOf32Bits(t *testing.T) {
	const low, high = math.MinInt32, math.MaxInt32
	one, less, none := numbers(1), numbers(-1), numbers(0)
	for _, width := range []int{16, 32} {
		track := func(x api.Track) api.Track {
			x.Adds32 = 1
			if width == 32 {
				x.Muls32, x.Low16, x.High16 = 1, 0, 0
				return x
			}
			x.Muls16, x.Adds16 = 1, 1
			return x
		}
		expectDot(t, "up", dotCase{weights(1), one, width, 1, high}, low,
			track(api.Track{Wraps: 1, Low16: 1, High16: 1, Low32: low, High32: low}))
		expectDot(t, "just not up", dotCase{weights(1), one, width, 1, high - 1}, high,
			track(api.Track{Low16: 1, High16: 1, Low32: high, High32: high}))
		expectDot(t, "down", dotCase{weights(1), less, width, 1, low}, high,
			track(api.Track{Wraps: 1, Low16: -1, High16: -1, Low32: high, High32: high}))
		expectDot(t, "just not down", dotCase{weights(1), less, width, 1, low + 1}, low,
			track(api.Track{Low16: -1, High16: -1, Low32: low, High32: low}))
		expectDot(t, "the bias alone", dotCase{weights(9), none, width, 1, high}, high,
			track(api.Track{Low32: high, High32: high}))
		expectDot(t, "the bias alone", dotCase{weights(9), none, width, 1, low}, low,
			track(api.Track{Low32: low, High32: low}))
	}
	expectDot(t, "up and back down", dotCase{weights(1, 1), numbers(1, -1), 32, 2, high}, high,
		api.Track{Muls32: 2, Adds32: 2, Wraps: 2, Low32: low, High32: high})
	expectDot(t, "up and back down by blocks", dotCase{weights(1, 1), numbers(1, -1), 16, 1, high}, high,
		api.Track{Muls16: 2, Adds16: 2, Adds32: 2, Wraps: 2, Low16: -1, High16: 1, Low32: low, High32: high})
	expectDot(t, "within a block it doesn't", dotCase{weights(1, 1), numbers(1, -1), 16, 2, high}, high,
		api.Track{Muls16: 2, Adds16: 2, Adds32: 1, Low16: 0, High16: 1, Low32: high, High32: high})
	expectDot(t, "a product, its sum and the register", dotCase{weights(-256, -1), numbers(-128, 1), 16, 2, high}, -2147450882,
		api.Track{Muls16: 2, Adds16: 2, Adds32: 1, Wraps: 3, Low16: -32768, High16: 32767, Low32: -2147450882, High32: -2147450882})
}

// P20.3: the bias begins the register, but is no sum: it is no low or high.
func TestBiasIsNoSum(t *testing.T) {
	expectDot(t, "above", dotCase{weights(-5), numbers(2), 32, 1, 1000}, 990, api.Track{Muls32: 1, Adds32: 1, Low32: 990, High32: 990})
	expectDot(t, "below", dotCase{weights(5), numbers(2), 16, 1, -1000}, -990,
		api.Track{Muls16: 1, Adds16: 1, Adds32: 1, Low16: 10, High16: 10, Low32: -990, High32: -990})
}

// P20.3: blocks, the last of them shorter; each begins with 0 again.
func TestBlocks(t *testing.T) {
	ws, xs := weights(1, 2, 3, 4, 5), numbers(10, 10, 10, 10, 10)
	for _, r := range []struct{ depth, adds, high16, low32 int }{{1, 5, 50, 110}, {2, 3, 70, 130}, {3, 2, 90, 160}, {4, 2, 100, 200}, {5, 1, 150, 250}} {
		expectDot(t, "blocks", dotCase{ws, xs, 16, r.depth, 100}, 250,
			api.Track{Muls16: 5, Adds16: 5, Adds32: r.adds, Low16: 10, High16: r.high16, Low32: r.low32, High32: 250})
	}
	expectDot(t, "32 wide", dotCase{ws, xs, 32, 5, 100}, 250, api.Track{Muls32: 5, Adds32: 5, Low32: 110, High32: 250})
	down := weights(-1, -2, -3, -4, -5)
	expectDot(t, "below 0 throughout", dotCase{down, xs, 16, 2, 0}, -150,
		api.Track{Muls16: 5, Adds16: 5, Adds32: 3, Low16: -70, High16: -10, Low32: -150, High32: -30})
}

// P20.3: the first error of those that apply, whatever else there is; the
// chapter's example 4.
func TestErrorsOfDot(t *testing.T) {
	expectError(t, dotCase{weights(), numbers(), 16, 1, 0}, api.ErrLens)
	expectError(t, dotCase{weights(1), numbers(1), 16, 2, 0}, api.ErrDepth)
	expectError(t, dotCase{weights(1, 1), numbers(1, 1), 32, 1, 0}, api.ErrDepth)

	widths := []int{16, 32, math.MinInt, -32, -16, -1, 0, 1, 8, 15, 17, 24, 31, 33, 48, 64, 16 + 1<<32, 32 + 1<<32, math.MaxInt}
	depths := []int{math.MinInt, -1 << 32, -3, -1, 0, 1, 2, 3, 4, 5, 1 << 31, 1<<32 + 1, 1<<32 + 3, math.MaxInt}
	told := map[api.Errno]int{}
	for lenW := range 5 {
		for lenX := range 5 {
			ws, xs := slices.Repeat(weights(3), lenW), slices.Repeat(numbers(-4), lenX)
			for _, width := range widths {
				for _, depth := range depths {
					told[secondError(ws, xs, width, depth)]++
					holdDot(t, dotCase{ws, xs, width, depth, 7})
				}
			}
		}
	}
	if len(told) != 4 {
		t.Errorf("answers told: %v", told)
	}
}

// Rule 6: nil and empty lists are one.
func TestNilAndEmptyLists(t *testing.T) {
	for _, ws := range [][]int16{nil, {}, make([]int16, 0, 4), {1}} {
		for _, xs := range [][]int8{nil, {}, make([]int8, 0, 4), {1}} {
			if len(ws)+len(xs) == 2 {
				continue
			}
			for _, width := range []int{0, 16, 32} {
				for _, depth := range []int{-1, 0, 1} {
					expectError(t, dotCase{ws, xs, width, depth, math.MaxInt32}, api.ErrLens)
				}
			}
		}
	}
}

// P20.3: all short lists of numbers that tell, with every depth.
func TestAllShortLists(t *testing.T) {
	fewW := weights(-32768, -256, 1, 129, 256, 32767)
	fewX := numbers(-128, -1, 0, 127)
	biases := []int32{math.MinInt32, -1, 0, math.MaxInt32}
	lists := []dotCase{{}}
	for from := 0; len(lists[from].ws) < 3; from++ {
		for _, w := range fewW {
			for _, x := range fewX {
				lists = append(lists, dotCase{ws: append(slices.Clone(lists[from].ws), w), xs: append(slices.Clone(lists[from].xs), x)})
			}
		}
	}
	for _, c := range lists {
		for _, bias := range biases {
			c.bias = bias
			c.width, c.depth = 32, len(c.ws)
			holdDot(t, c)
			c.width = 16
			for c.depth = range len(c.ws) + 2 {
				holdDot(t, c)
			}
		}
	}
}

func anyOf[T any](r *rand.Rand, list ...T) T { return list[r.Intn(len(list))] }

// anyLists are two lists of one length, the weights up to a size.
func anyLists(r *rand.Rand, length int) ([]int16, []int8) {
	ws, xs := make([]int16, length), make([]int8, length)
	smaller := r.Intn(16)
	for i := range ws {
		ws[i], xs[i] = int16(r.Uint32())>>smaller, int8(r.Uint32())
		if r.Intn(12) == 0 {
			ws[i] = anyOf(r, int16(math.MinInt16), math.MaxInt16, 256, -256, 258, 0, 1, -1)
		}
		if r.Intn(6) == 0 {
			xs[i] = anyOf(r, int8(-128), 127, 0, 1, -1)
		}
	}
	return ws, xs
}

func anyBias(r *rand.Rand) int32 {
	return anyOf(r, 0, int32(r.Uint32())>>r.Intn(32), math.MaxInt32, math.MinInt32, math.MaxInt32-int32(r.Intn(1<<20)), math.MinInt32+int32(r.Intn(1<<20)))
}

// anyCase is one that Dot answers without an error.
func anyCase(r *rand.Rand) dotCase {
	c := dotCase{width: anyOf(r, 16, 16, 32), bias: anyBias(r)}
	c.ws, c.xs = anyLists(r, 1+r.Intn(anyOf(r, 4, 40, 200)))
	c.depth = len(c.ws)
	if c.width == 16 {
		c.depth = anyOf(r, c.depth, 1, 1+r.Intn(c.depth), 1+r.Intn(c.depth))
	}
	return c
}

// P20.3: random lists.
func TestDotAtRandom(t *testing.T) {
	r := rand.New(rand.NewSource(3))
	seen := map[bool]int{}
	for range 40000 {
		_, track := holdDot(t, anyCase(r))
		seen[track.Wraps == 0]++
	}
	if seen[true] < 4000 || seen[false] < 4000 {
		t.Errorf("without a wrap and with one: %v", seen)
	}
}

// P1, and rule 1: random arguments of any kind.
func TestAnyArguments(t *testing.T) {
	r := rand.New(rand.NewSource(4))
	told := map[api.Errno]int{}
	for range 40000 {
		c := anyCase(r)
		switch r.Intn(4) {
		case 0:
			c.xs = c.xs[:r.Intn(len(c.xs)+1)]
		case 1:
			c.ws = c.ws[:r.Intn(len(c.ws)+1)]
		}
		c.width = anyOf(r, c.width, c.width, c.width, r.Intn(70)-10, int(r.Uint64()))
		c.depth = anyOf(r, c.depth, c.depth, len(c.ws), len(c.ws)+1, r.Intn(300)-20, int(r.Uint64()))
		told[secondError(c.ws, c.xs, c.width, c.depth)]++
		holdDot(t, c)
	}
	for _, e := range []api.Errno{api.OK, api.ErrLens, api.ErrWidth, api.ErrDepth} {
		if told[e] < 1000 {
			t.Errorf("error %d told %d times", e, told[e])
		}
	}
}

// P20.3: lists longer than any op's length, since the chapter sets no limit.
func TestLongLists(t *testing.T) {
	r := rand.New(rand.NewSource(5))
	for _, length := range []int{512, 513, 1 << 16, 1<<16 + 1, 1 << 20} {
		ws, xs := anyLists(r, length)
		holdDot(t, dotCase{ws, xs, 32, length, -1})
		for _, depth := range []int{1, 2, 3, 512, 513, length - 1, length} {
			holdDot(t, dotCase{ws, xs, 16, min(depth, length), 1})
		}
	}
}

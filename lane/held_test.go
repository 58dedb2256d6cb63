package lane_test

import (
	"math"
	"math/rand"
	"slices"
	"testing"

	"spillway/api"
	"spillway/lane"
)

// holdWhole holds a case to P20.5 and P20.6, and the way back of P20.6, and
// tells whether nothing wraps.
func holdWhole(t *testing.T, name string, c dotCase) bool {
	t.Helper()
	register, track, e := c.dot()
	if e != api.OK {
		t.Fatalf("%s: %v", name, e)
	}
	whole := int64(c.bias)
	for _, p := range products(c.ws, c.xs) {
		whole += p
	}
	gap := whole - int64(register)
	if track.Wraps == 0 && gap != 0 {
		t.Errorf("%s: nothing wraps, and the register is %d; in whole numbers %d: %+v", name, register, whole, c)
	}
	if gap%(int64(1)<<c.width) != 0 {
		t.Errorf("%s: the register is %d; in whole numbers %d: %+v", name, register, whole, c)
	}
	if fit := fits(c.ws, c.xs, c.width, c.depth, c.bias); fit != (track.Wraps == 0) {
		t.Errorf("%s: %d wraps; that all is within the registers is %v: %+v", name, track.Wraps, fit, c)
	}
	return track.Wraps == 0
}

// expectBorne holds a case to P20.5, to P20.6, and to whether something wraps.
func expectBorne(t *testing.T, name string, c dotCase, want bool) {
	t.Helper()
	if got := holdWhole(t, name, c); got != want {
		t.Errorf("%s: that nothing wraps is %v: %+v", name, got, c)
	}
}

// P20.5, P20.6: random lists.
func TestAgainstWholeNumbers(t *testing.T) {
	r := rand.New(rand.NewSource(6))
	seen := map[int]map[bool]int{16: {}, 32: {}}
	for range 60000 {
		c := anyCase(r)
		seen[c.width][holdWhole(t, "random", c)]++
	}
	for width, count := range seen {
		if count[true] < 2000 || count[false] < 2000 {
			t.Errorf("width %d: without a wrap and with one: %v", width, count)
		}
	}
}

// within is a list whose running sums are all int16, each number of it taken as
// it comes or, where the sum would leave int16, against it.
func within(r *rand.Rand, length int) ([]int16, []int8) {
	ws, xs := anyLists(r, length)
	sum := int64(0)
	for i := range ws {
		for p := int64(ws[i]) * int64(xs[i]); !isOf(16, p) || !isOf(16, sum+p); p = int64(ws[i]) * int64(xs[i]) {
			ws[i], xs[i] = -(ws[i] / 2), xs[i]/2
		}
		sum += int64(ws[i]) * int64(xs[i])
	}
	return ws, xs
}

func total(ws []int16, xs []int8) int64 {
	sum := int64(0)
	for _, p := range products(ws, xs) {
		sum += p
	}
	return sum
}

// with is the lists with one more product behind them.
func with(c dotCase, w int64, x int8) dotCase {
	c.ws, c.xs = append(slices.Clone(c.ws), int16(w)), append(slices.Clone(c.xs), x)
	c.depth = len(c.ws)
	return c
}

// P20.5, P20.6: blocks that just come to an end of int16, and by one more leave
// it.
func TestBlocksAtTheEnds(t *testing.T) {
	r := rand.New(rand.NewSource(7))
	for range 5000 {
		var c dotCase
		c.ws, c.xs = within(r, 1+r.Intn(20))
		c.width, c.bias = 16, int32(r.Uint32())>>8
		end, out := int64(math.MaxInt16), int64(1)
		if total(c.ws, c.xs) < 0 {
			end, out = math.MinInt16, -1
		}
		full := with(c, end-total(c.ws, c.xs), 1)
		expectBorne(t, "at the end", full, true)
		over := with(full, out, 1)
		expectBorne(t, "one more", over, false)
		expectBorne(t, "one more, and back", with(over, -out, 1), false)
		over.depth = len(full.ws)
		expectBorne(t, "one more in the next block", over, true)
		over.width, over.depth = 32, len(over.ws)
		expectBorne(t, "one more, 32 wide", over, true)
	}
}

// runs are what the whole sums, without the bias, come to where the register of
// 32 bits is added to.
func runs(c dotCase) []int64 {
	var all []int64
	sum := int64(0)
	each := c.depth
	if c.width == 32 {
		each = 1
	}
	for block := range slices.Chunk(products(c.ws, c.xs), each) {
		for _, p := range block {
			sum += p
		}
		all = append(all, sum)
	}
	return all
}

// P20.5, P20.6: a bias by which the register of 32 bits just comes to an end of
// int32, and by one more leaves it.
func TestBiasesAtTheEnds(t *testing.T) {
	r := rand.New(rand.NewSource(8))
	for range 5000 {
		var c dotCase
		c.ws, c.xs = within(r, 1+r.Intn(20))
		c.width, c.depth = 32, len(c.ws)
		if r.Intn(2) == 0 {
			c.width = 16
		}
		sums := runs(c)
		if top := max(0, slices.Max(sums)); top > 0 {
			c.bias = int32(math.MaxInt32 - top)
			expectBorne(t, "at the high end", c, true)
			c.bias++
			expectBorne(t, "one above", c, false)
		}
		if bottom := min(0, slices.Min(sums)); bottom < 0 {
			c.bias = int32(math.MinInt32 - bottom)
			expectBorne(t, "at the low end", c, true)
			c.bias--
			expectBorne(t, "one below", c, false)
		}
	}
}

// P20.6: products at the ends of int16 and one beyond.
func TestProductsAtTheEnds(t *testing.T) {
	rows := []struct {
		w     int16
		x     int8
		borne bool
	}{
		{32767, 1, true}, {-32767, -1, true}, {-32768, 1, true}, {-32768, -1, false}, {32767, -1, true},
		{256, -128, true}, {-256, -128, false}, {-255, -128, true}, {257, -128, false},
		{258, 127, true}, {259, 127, false}, {-258, 127, true}, {-259, 127, false},
		{-16384, -2, false}, {-16384, 2, true}, {16384, -2, true}, {16384, 2, false}, {-32768, 0, true},
		{-32768, 2, false}, {-32768, -128, false}, {-32768, 127, false}, {32767, 127, false}, {0, -128, true},
	}
	for _, r := range rows {
		expectBorne(t, "16 wide", dotCase{weights(r.w), numbers(r.x), 16, 1, 0}, r.borne)
		expectBorne(t, "32 wide", dotCase{weights(r.w), numbers(r.x), 32, 1, 0}, true)
	}
}

// P20.6: the longest sums of an op: the document's example 5.
func TestLongestSums(t *testing.T) {
	c := dotCase{slices.Repeat(weights(-32768), 512), slices.Repeat(numbers(-128), 512), 32, 512, -1}
	expectBorne(t, "up to the end", c, true)
	expectDot(t, "up to the end", c, math.MaxInt32, api.Track{Muls32: 512, Adds32: 512, Low32: 1<<22 - 1, High32: math.MaxInt32})
	c.bias = 0
	expectBorne(t, "one more", c, false)
	expectDot(t, "one more", c, math.MinInt32, api.Track{Muls32: 512, Adds32: 512, Wraps: 1, Low32: math.MinInt32, High32: 511 << 22})
	c.width = 16
	for _, depth := range []int{1, 2, 511, 512} {
		c.depth = depth
		expectBorne(t, "products that wrap to 0", c, false)
	}
}

// P20.5, P20.1 to P20.3: Dot is what Mul, Add and Sum make of the lists.
func TestDotByTheOtherCalls(t *testing.T) {
	r := rand.New(rand.NewSource(9))
	for range 5000 {
		c := anyCase(r)
		register, track, _ := c.dot()
		into32, wraps := []int32{c.bias}, 0
		if c.width == 32 {
			for i := range c.ws {
				product, _ := lane.Mul(int32(c.ws[i]), int32(c.xs[i]))
				into32 = append(into32, product)
			}
		} else {
			into32, wraps = blockSums(c, into32)
		}
		want, more := lane.Sum(into32)
		if register != want || track.Wraps != wraps+more {
			t.Errorf("Dot of %+v = %d, %d wraps; by the other calls %d, %d", c, register, track.Wraps, want, wraps+more)
		}
	}
}

// blockSums puts the sums of all blocks behind a list, and tells how many
// products and sums of 16 bits wrapped.
func blockSums(c dotCase, list []int32) ([]int32, int) {
	wraps := 0
	for from := 0; from < len(c.ws); from += c.depth {
		var block []int16
		for i := from; i < min(from+c.depth, len(c.ws)); i++ {
			product, whole := lane.Mul(c.ws[i], int16(c.xs[i]))
			if !whole {
				wraps++
			}
			block = append(block, product)
		}
		sum, more := lane.Sum(block)
		list, wraps = append(list, int32(sum)), wraps+more
	}
	return list, wraps
}

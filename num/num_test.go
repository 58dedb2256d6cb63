package num_test

import (
	"math"
	"math/big"
	"testing"

	"spillway/api"
	"spillway/num"
)

type ownByte int8
type ownShort int16
type ownWord int32

// edges are both ends of 8, 16, 32 and 64 bits with their neighbours, the
// powers of two with theirs, and roots about which products leave int64.
func edges() []int64 {
	list := []int64{0, math.MaxInt64, math.MaxInt64 - 1, math.MinInt64, math.MinInt64 + 1,
		3037000499, 3037000500, -3037000499, -3037000500, 2147483647 * 3, 40000, -40000, 5, -5}
	for shift := range 63 {
		power := int64(1) << shift
		list = append(list, power-1, power, power+1, -power-1, -power, -power+1)
	}
	return list
}

// scatter answers n numbers of all sizes, the same ones at every run.
func scatter(n int) []int64 {
	state := uint64(1)
	list := make([]int64, n)
	for i := range list {
		state = state*6364136223846793005 + 1442695040888963407
		list[i] = int64(state) >> (state >> 32 % 64)
	}
	return list
}

type pairCall struct {
	name  string
	call  func(a, b int64) (int64, api.Errno)
	whole func(z, a, b *big.Int) *big.Int
}

func pairCalls() []pairCall {
	return []pairCall{
		{"Add", num.Add, (*big.Int).Add},
		{"Sub", num.Sub, (*big.Int).Sub},
		{"Mul", num.Mul, (*big.Int).Mul},
	}
}

func comparePair(t *testing.T, c pairCall, a, b int64) {
	t.Helper()
	whole := c.whole(new(big.Int), big.NewInt(a), big.NewInt(b))
	want, wantErr := int64(0), api.ErrOver
	if whole.IsInt64() {
		want, wantErr = whole.Int64(), api.OK
	}
	if got, e := c.call(a, b); got != want || e != wantErr {
		t.Errorf("%s(%d, %d) = %d, %d; want %d, %d", c.name, a, b, got, e, want, wantErr)
	}
}

// P1.1, and P1 for these calls.
func TestSumsAgainstWholeNumbers(t *testing.T) {
	list := append(edges(), scatter(300)...)
	for _, c := range pairCalls() {
		for _, a := range list {
			for _, b := range list {
				comparePair(t, c, a, b)
			}
		}
	}
}

// P1.1: small numbers of every sign.
func TestSumsOfSmallNumbers(t *testing.T) {
	for _, c := range pairCalls() {
		for a := int64(-40); a <= 40; a++ {
			for b := int64(-40); b <= 40; b++ {
				comparePair(t, c, a, b)
			}
		}
	}
}

// P1.1: the chapter's example 1 and the places where OK turns to ErrOver.
func TestSumsAtTheEnds(t *testing.T) {
	const low, high = math.MinInt64, math.MaxInt64
	rows := []struct {
		name string
		call func(a, b int64) (int64, api.Errno)
		a, b int64
		want int64
		err  api.Errno
	}{
		{"Add", num.Add, 2, 3, 5, api.OK},
		{"Add", num.Add, high, 0, high, api.OK},
		{"Add", num.Add, high, 1, 0, api.ErrOver},
		{"Add", num.Add, high, high, 0, api.ErrOver},
		{"Add", num.Add, low, 0, low, api.OK},
		{"Add", num.Add, low, -1, 0, api.ErrOver},
		{"Add", num.Add, low, low, 0, api.ErrOver},
		{"Add", num.Add, low, high, -1, api.OK},
		{"Sub", num.Sub, 2, 3, -1, api.OK},
		{"Sub", num.Sub, low, 1, 0, api.ErrOver},
		{"Sub", num.Sub, low, 0, low, api.OK},
		{"Sub", num.Sub, low, low, 0, api.OK},
		{"Sub", num.Sub, high, -1, 0, api.ErrOver},
		{"Sub", num.Sub, high, low, 0, api.ErrOver},
		{"Sub", num.Sub, 0, low, 0, api.ErrOver},
		{"Sub", num.Sub, -1, low, high, api.OK},
		{"Mul", num.Mul, -7, 6, -42, api.OK},
		{"Mul", num.Mul, 1 << 32, 1 << 31, 0, api.ErrOver},
		{"Mul", num.Mul, -1 << 32, 1 << 31, low, api.OK},
		{"Mul", num.Mul, 1 << 31, -1 << 32, low, api.OK},
		{"Mul", num.Mul, -1, low, 0, api.ErrOver},
		{"Mul", num.Mul, low, -1, 0, api.ErrOver},
		{"Mul", num.Mul, low, low, 0, api.ErrOver},
		{"Mul", num.Mul, low, 1, low, api.OK},
		{"Mul", num.Mul, low, 0, 0, api.OK},
		{"Mul", num.Mul, 0, low, 0, api.OK},
		{"Mul", num.Mul, -1, high, -high, api.OK},
		{"Mul", num.Mul, 1 << 32, 1 << 32, 0, api.ErrOver},
	}
	for _, r := range rows {
		if got, e := r.call(r.a, r.b); got != r.want || e != r.err {
			t.Errorf("%s(%d, %d) = %d, %d; want %d, %d", r.name, r.a, r.b, got, e, r.want, r.err)
		}
	}
}

// compareNarrow holds Fits, Sat and Wrap of a type against whole numbers alone.
func compareNarrow[T num.Narrow](t *testing.T, bits uint, x int64) {
	t.Helper()
	half := int64(1) << (bits - 1)
	low, high := -half, half-1
	if got, want := num.Fits[T](x), x >= low && x <= high; got != want {
		t.Errorf("Fits, %d bits, of %d = %v", bits, x, got)
	}
	if got, want := int64(num.Sat[T](x)), min(max(x, low), high); got != want {
		t.Errorf("Sat, %d bits, of %d = %d; want %d", bits, x, got, want)
	}
	got := int64(num.Wrap[T](x))
	gap := new(big.Int).Sub(big.NewInt(x), big.NewInt(got))
	if got < low || got > high || gap.Mod(gap, big.NewInt(2*half)).Sign() != 0 {
		t.Errorf("Wrap, %d bits, of %d = %d", bits, x, got)
	}
}

func compareAllNarrow(t *testing.T, x int64) {
	t.Helper()
	compareNarrow[int8](t, 8, x)
	compareNarrow[int16](t, 16, x)
	compareNarrow[int32](t, 32, x)
	compareNarrow[ownByte](t, 8, x)
	compareNarrow[ownShort](t, 16, x)
	compareNarrow[ownWord](t, 32, x)
}

// P1.2, and P1 for these calls.
func TestNarrowAgainstWholeNumbers(t *testing.T) {
	for _, x := range append(edges(), scatter(3000)...) {
		compareAllNarrow(t, x)
	}
	for x := int64(-70000); x <= 70000; x++ {
		compareAllNarrow(t, x)
	}
}

type narrowRow struct {
	x    int64
	fits bool
	sat  int64
	wrap int64
}

func checkNarrowRows[T num.Narrow](t *testing.T, name string, rows []narrowRow) {
	t.Helper()
	for _, r := range rows {
		fits, sat, wrap := num.Fits[T](r.x), int64(num.Sat[T](r.x)), int64(num.Wrap[T](r.x))
		if got := (narrowRow{r.x, fits, sat, wrap}); got != r {
			t.Errorf("%s: %+v; want %+v", name, got, r)
		}
	}
}

// P1.2: both ends of each width and one beyond them, the ends of int64, and the
// chapter's example 2; types of one's own answer as those that they are made of.
func TestNarrowAtTheEnds(t *testing.T) {
	rows8 := []narrowRow{
		{5, true, 5, 5}, {0, true, 0, 0}, {-1, true, -1, -1},
		{127, true, 127, 127}, {128, false, 127, -128}, {255, false, 127, -1}, {256, false, 127, 0},
		{-128, true, -128, -128}, {-129, false, -128, 127}, {-256, false, -128, 0},
		{math.MaxInt64, false, 127, -1}, {math.MinInt64, false, -128, 0},
	}
	rows16 := []narrowRow{
		{5, true, 5, 5}, {40000, false, 32767, -25536}, {-40000, false, -32768, 25536},
		{32767, true, 32767, 32767}, {32768, false, 32767, -32768}, {65536, false, 32767, 0},
		{-32768, true, -32768, -32768}, {-32769, false, -32768, 32767},
		{math.MaxInt64, false, 32767, -1}, {math.MinInt64, false, -32768, 0},
	}
	const low, high = math.MinInt32, math.MaxInt32
	rows32 := []narrowRow{
		{5, true, 5, 5}, {1 << 40, false, high, 0}, {-1 << 40, false, low, 0},
		{high, true, high, high}, {high + 1, false, high, low}, {1 << 32, false, high, 0},
		{low, true, low, low}, {low - 1, false, low, high},
		{math.MaxInt64, false, high, -1}, {math.MinInt64, false, low, 0},
	}
	checkNarrowRows[int8](t, "int8", rows8)
	checkNarrowRows[ownByte](t, "ownByte", rows8)
	checkNarrowRows[int16](t, "int16", rows16)
	checkNarrowRows[ownShort](t, "ownShort", rows16)
	checkNarrowRows[int32](t, "int32", rows32)
	checkNarrowRows[ownWord](t, "ownWord", rows32)
}

// P1.3: the chapter's example 3, both ends, and a lo above hi.
func TestClamp(t *testing.T) {
	const low, high = math.MinInt64, math.MaxInt64
	rows := []struct{ x, lo, hi, want int64 }{
		{5, 0, 3, 3}, {-5, 0, 3, 0}, {2, 0, 3, 2}, {0, 0, 3, 0}, {3, 0, 3, 3}, {4, 0, 3, 3}, {-1, 0, 3, 0},
		{7, 7, 7, 7}, {8, 7, 7, 7}, {6, 7, 7, 7},
		{2, 3, 0, 0}, {-2, 3, 0, 3}, {0, 3, 0, 3}, {1, 3, 0, 0}, {3, 3, 0, 0}, {4, 3, 0, 0},
		{low, low, high, low}, {high, low, high, high}, {0, low, high, 0},
		{high, -128, 127, 127}, {low, -128, 127, -128},
		{low, high, low, high}, {low + 1, high, low, low}, {high, high, low, low},
	}
	for _, r := range rows {
		if got := num.Clamp(r.x, r.lo, r.hi); got != r.want {
			t.Errorf("Clamp(%d, %d, %d) = %d; want %d", r.x, r.lo, r.hi, got, r.want)
		}
	}
}

// P1.3: every order of three small numbers.
func TestClampInEveryOrder(t *testing.T) {
	for x := int64(-4); x <= 4; x++ {
		for lo := int64(-4); lo <= 4; lo++ {
			for hi := int64(-4); hi <= 4; hi++ {
				want := min(max(x, lo), hi)
				if lo > hi && x <= hi {
					want = lo
				}
				if got := num.Clamp(x, lo, hi); got != want {
					t.Errorf("Clamp(%d, %d, %d) = %d; want %d", x, lo, hi, got, want)
				}
			}
		}
	}
}

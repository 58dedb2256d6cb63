package fixq_test

import (
	"math"
	"math/big"
	"testing"

	"spillway/api"
	"spillway/fixq"
)

// halfAway is above / below, rounded half away, in whole numbers without end:
// the floor of |above| / below + 1/2, with the sign of above; below is positive.
func halfAway(above, below *big.Int) *big.Int {
	twice := new(big.Int).Abs(above)
	twice.Lsh(twice, 1).Add(twice, below)
	quotient := twice.Div(twice, new(big.Int).Lsh(below, 1))
	if above.Sign() < 0 {
		quotient.Neg(quotient)
	}
	return quotient
}

func powerOfTwo(n int) *big.Int {
	return new(big.Int).Lsh(big.NewInt(1), uint(n))
}

// edges are both ends of int64 and of what Apply takes, one beyond, and the
// powers of two with their neighbours, of both signs.
func edges() []int64 {
	list := []int64{0, math.MaxInt64, math.MaxInt64 - 1, math.MinInt64, math.MinInt64 + 1}
	for shift := range 63 {
		power := int64(1) << shift
		list = append(list, power-1, power, power+1, -power-1, -power, -power+1)
	}
	return list
}

// scatter answers n numbers of all sizes, the same ones at every run.
func scatter(n int) []int64 {
	state := uint64(7)
	list := make([]int64, n)
	for i := range list {
		state = state*6364136223846793005 + 1442695040888963407
		list[i] = int64(state) >> (state >> 32 % 64)
	}
	return list
}

func small() []int64 {
	var list []int64
	for x := int64(-70); x <= 70; x++ {
		list = append(list, x)
	}
	return list
}

func numbers() []int64 {
	return append(append(edges(), scatter(200)...), small()...)
}

// wholes are the counts about the edges: int has all of int64's numbers here.
func wholes() []int {
	var list []int
	for _, x := range numbers() {
		list = append(list, int(x))
	}
	return list
}

type scaleCase struct {
	mult, shift int
	want        bool
}

func scaleCases() []scaleCase {
	return []scaleCase{
		{1, 0, true}, {1, 62, true}, {3, 2, true}, {math.MaxInt32, 0, true}, {math.MaxInt32, 62, true},
		{math.MaxInt32 - 1, 61, true}, {2, 1, true},
		{0, 0, false}, {0, 62, false}, {-1, 0, false}, {math.MinInt32, 3, false}, {math.MinInt64, 0, false},
		{math.MaxInt32 + 1, 0, false}, {math.MaxInt32 + 1, 62, false}, {math.MaxUint32, 0, false},
		{1<<32 + 1, 0, false}, {math.MaxInt64, 0, false},
		{1, 63, false}, {1, 64, false}, {1, -1, false}, {math.MaxInt32, -1, false}, {math.MaxInt32, 63, false},
		{1, math.MaxInt64, false}, {1, math.MinInt64, false}, {1, 1 << 32, false},
		{0, 63, false}, {-1, -1, false},
	}
}

// P2.1.
func TestValid(t *testing.T) {
	for _, c := range scaleCases() {
		if got := fixq.Valid(api.Scale{Mult: c.mult, Shift: c.shift}); got != c.want {
			t.Errorf("Valid({%d, %d}) = %t", c.mult, c.shift, got)
		}
	}
}

// P2.2: every shift of all numbers, and the shifts beyond.
func TestShiftAgainstWholeNumbers(t *testing.T) {
	for _, x := range numbers() {
		for n := 0; n <= api.MaxShift; n++ {
			want := halfAway(big.NewInt(x), powerOfTwo(n))
			if got, e := fixq.Shift(x, n); e != api.OK || want.Cmp(big.NewInt(got)) != 0 {
				t.Errorf("Shift(%d, %d) = %d, %d; want %s", x, n, got, e, want)
			}
		}
		for _, n := range []int{-1, -2, -62, 63, 64, 65, 128, math.MaxInt64, math.MinInt64, 1 << 32} {
			if got, e := fixq.Shift(x, n); got != 0 || e != api.ErrScale {
				t.Errorf("Shift(%d, %d) = %d, %d; want ErrScale", x, n, got, e)
			}
		}
	}
}

// P2.2: halves, and what lies one beside a half, of both signs.
func TestShiftAboutHalves(t *testing.T) {
	for n := 1; n <= api.MaxShift; n++ {
		half := int64(1) << (n - 1)
		for _, c := range []struct{ x, want int64 }{
			{half, 1}, {-half, -1}, {half - 1, 0}, {-half + 1, 0},
			{3*half - 1, 1}, {-3*half + 1, -1}, {3 * half, 2}, {-3 * half, -2},
		} {
			if got, e := fixq.Shift(c.x, n); got != c.want || e != api.OK {
				t.Errorf("Shift(%d, %d) = %d, %d; want %d", c.x, n, got, e, c.want)
			}
		}
	}
}

func someScales() []api.Scale {
	var list []api.Scale
	for _, mult := range []int{1, 2, 3, 5, 7, 1000, 1<<30 - 1, 1 << 30, 1<<30 + 1, math.MaxInt32 - 1, math.MaxInt32} {
		for shift := 0; shift <= api.MaxShift; shift++ {
			list = append(list, api.Scale{Mult: mult, Shift: shift})
		}
	}
	return list
}

// P2.3: all numbers by many scales, within 2^32 of zero and beyond.
func TestApplyAgainstWholeNumbers(t *testing.T) {
	for _, s := range someScales() {
		for _, acc := range numbers() {
			want, wantErr := new(big.Int), api.ErrOver
			if -1<<32 <= acc && acc <= 1<<32 {
				product := new(big.Int).Mul(big.NewInt(acc), big.NewInt(int64(s.Mult)))
				want, wantErr = halfAway(product, powerOfTwo(s.Shift)), api.OK
			}
			if got, e := fixq.Apply(acc, s); e != wantErr || want.Cmp(big.NewInt(got)) != 0 {
				t.Errorf("Apply(%d, %v) = %d, %d; want %s, %d", acc, s, got, e, want, wantErr)
			}
		}
	}
}

// P2.3: the ends of what Apply takes, by name.
func TestApplyAtItsEnds(t *testing.T) {
	one := api.Scale{Mult: 1}
	for _, c := range []struct {
		acc, want int64
		e         api.Errno
	}{
		{1 << 32, 1 << 32, api.OK}, {-1 << 32, -1 << 32, api.OK},
		{1<<32 + 1, 0, api.ErrOver}, {-1<<32 - 1, 0, api.ErrOver},
		{math.MaxInt64, 0, api.ErrOver}, {math.MinInt64, 0, api.ErrOver},
	} {
		if got, e := fixq.Apply(c.acc, one); got != c.want || e != c.e {
			t.Errorf("Apply(%d, %v) = %d, %d; want %d, %d", c.acc, one, got, e, c.want, c.e)
		}
	}
}

// P2.3: a scale that isn't valid is told ahead of a sum that is too great.
func TestApplyOfBadScales(t *testing.T) {
	for _, c := range scaleCases() {
		if c.want {
			continue
		}
		for _, acc := range []int64{0, 1, -1, 1 << 32, 1<<32 + 1, -1<<32 - 1, math.MaxInt64, math.MinInt64} {
			s := api.Scale{Mult: c.mult, Shift: c.shift}
			if got, e := fixq.Apply(acc, s); got != 0 || e != api.ErrScale {
				t.Errorf("Apply(%d, %v) = %d, %d; want ErrScale", acc, s, got, e)
			}
		}
	}
}

// P2.4: all numbers by all counts, 1 and the greatest int among them.
func TestMeanAgainstWholeNumbers(t *testing.T) {
	for _, sum := range numbers() {
		for _, n := range wholes() {
			want, wantErr := new(big.Int), api.ErrArg
			if n >= 1 {
				want, wantErr = halfAway(big.NewInt(sum), big.NewInt(int64(n))), api.OK
			}
			if got, e := fixq.Mean(sum, n); e != wantErr || want.Cmp(big.NewInt(got)) != 0 {
				t.Errorf("Mean(%d, %d) = %d, %d; want %s, %d", sum, n, got, e, want, wantErr)
			}
		}
	}
}

// finished is Finish in whole numbers without end, for arguments that it takes.
func finished(v int64, zero, lo, hi int) int {
	sum := new(big.Int).Add(big.NewInt(v), big.NewInt(int64(zero)))
	if sum.Cmp(big.NewInt(int64(hi))) > 0 {
		return hi
	}
	if sum.Cmp(big.NewInt(int64(lo))) < 0 {
		return lo
	}
	return int(sum.Int64())
}

// P2.5: all numbers, the range's and the zero's ends, and one beyond each.
func TestFinishAgainstWholeNumbers(t *testing.T) {
	ends := []int{-129, -128, -127, -5, -1, 0, 1, 6, 126, 127, 128}
	for _, v := range append(numbers(), 126, 127, 128, 129, 253, 254, 255, 256, -129, -128, -127, -254, -255, -256, -257) {
		for _, zero := range ends {
			for _, lo := range ends {
				for _, hi := range ends {
					compareFinish(t, v, zero, lo, hi)
				}
			}
		}
	}
}

func compareFinish(t *testing.T, v int64, zero, lo, hi int) {
	t.Helper()
	want, wantErr := 0, api.ErrRange
	if -128 <= lo && lo <= hi && hi <= 127 && -128 <= zero && zero <= 127 {
		want, wantErr = finished(v, zero, lo, hi), api.OK
	}
	if got, e := fixq.Finish(v, zero, lo, hi); got != want || e != wantErr {
		t.Errorf("Finish(%d, %d, %d, %d) = %d, %d; want %d, %d", v, zero, lo, hi, got, e, want, wantErr)
	}
}

// P2.5, and P1 for it: ends and zeros of any size.
func TestFinishOfAnyRange(t *testing.T) {
	far := []int{math.MinInt64, math.MinInt64 + 1, -1 << 32, -200, 200, 1 << 32, math.MaxInt64}
	for _, v := range []int64{0, 5, math.MaxInt64, math.MinInt64} {
		for _, bad := range far {
			compareFinish(t, v, bad, -128, 127)
			compareFinish(t, v, 0, bad, 127)
			compareFinish(t, v, 0, -128, bad)
			compareFinish(t, v, bad, bad, bad)
		}
	}
}

func expect(t *testing.T, what string, got, want int64, e, wantErr api.Errno) {
	t.Helper()
	if got != want || e != wantErr {
		t.Errorf("%s = %d, %d; want %d, %d", what, got, e, want, wantErr)
	}
}

// The chapter's examples 1 and 3.
func TestExamplesOfQuotients(t *testing.T) {
	for _, c := range []struct {
		x    int64
		n    int
		want int64
		e    api.Errno
	}{
		{5, 1, 3, 0}, {-5, 1, -3, 0}, {5, 2, 1, 0}, {-6, 2, -2, 0}, {1, 62, 0, 0}, {1 << 61, 62, 1, 0}, {7, 63, 0, api.ErrScale},
	} {
		got, e := fixq.Shift(c.x, c.n)
		expect(t, "Shift", got, c.want, e, c.e)
	}
	for _, c := range []struct {
		sum  int64
		n    int
		want int64
		e    api.Errno
	}{
		{7, 4, 2, 0}, {6, 4, 2, 0}, {-6, 4, -2, 0}, {5, 4, 1, 0}, {5, 0, 0, api.ErrArg}, {5, -1, 0, api.ErrArg},
	} {
		got, e := fixq.Mean(c.sum, c.n)
		expect(t, "Mean", got, c.want, e, c.e)
	}
}

// The chapter's examples 2 and 4.
func TestExamplesOfScales(t *testing.T) {
	for _, c := range []struct {
		acc  int64
		s    api.Scale
		want int64
		e    api.Errno
	}{
		{100, api.Scale{Mult: 3, Shift: 2}, 75, 0}, {10, api.Scale{Mult: 3, Shift: 2}, 8, 0},
		{-10, api.Scale{Mult: 3, Shift: 2}, -8, 0}, {1 << 32, api.Scale{Mult: 1<<31 - 1}, 1<<63 - 1<<32, 0},
		{1<<32 + 1, api.Scale{Mult: 1}, 0, api.ErrOver}, {1, api.Scale{}, 0, api.ErrScale},
	} {
		got, e := fixq.Apply(c.acc, c.s)
		expect(t, "Apply", got, c.want, e, c.e)
	}
	for _, c := range []struct {
		v                  int64
		zero, lo, hi, want int
		e                  api.Errno
	}{
		{200, 3, -128, 127, 127, 0}, {-5, 3, 0, 127, 0, 0}, {5, 3, 0, 127, 8, 0}, {1<<63 - 1, 127, -128, 127, 127, 0},
		{0, 0, 5, 4, 0, api.ErrRange}, {0, 128, 0, 1, 0, api.ErrRange},
	} {
		got, e := fixq.Finish(c.v, c.zero, c.lo, c.hi)
		expect(t, "Finish", int64(got), int64(c.want), e, c.e)
	}
}

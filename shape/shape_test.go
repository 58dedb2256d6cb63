package shape_test

import (
	"math"
	"math/big"
	"testing"

	"spillway/api"
	"spillway/shape"
)

func of(h, w, c int) api.Shape { return api.Shape{H: h, W: w, C: c} }

// lengths are sides at both ends of what is allowed and one beyond either, such
// whose products stand at MaxElems and just above it, and such whose products
// come round to something small in 64 bits.
func lengths() []int {
	return []int{
		math.MinInt, math.MinInt + 1, -1 << 62, -1 << 32, -1024, -128, -4, -1, 0,
		1, 2, 3, 4, 5, 7, 15, 16, 17, 31, 32, 33, 64, 113, 127, 128, 129, 145, 512, 1023, 1024,
		1025, 2048, 16384, 16385, 1 << 31, 1 << 32, 1<<32 + 1, 1 << 61, 1 << 62, math.MaxInt - 1, math.MaxInt,
	}
}

// eachShape calls f with every shape of three such sides.
func eachShape(f func(s api.Shape)) {
	for _, h := range lengths() {
		for _, w := range lengths() {
			for _, c := range lengths() {
				f(of(h, w, c))
			}
		}
	}
}

// elems is the product of the sides, worked out in whole numbers without end,
// and whether the shape is valid.
func elems(s api.Shape) (int, bool) {
	product := big.NewInt(1)
	for _, side := range []int{s.H, s.W, s.C} {
		if side < 1 || side > 1024 {
			return 0, false
		}
		product.Mul(product, big.NewInt(int64(side)))
	}
	if product.Cmp(big.NewInt(16384)) > 0 {
		return 0, false
	}
	return int(product.Int64()), true
}

// small are valid shapes whose places can all be gone through: sides of 1 at
// each place, no two sides alike, the longest side at each place, and products
// at MaxElems.
func small() []api.Shape {
	return []api.Shape{
		of(1, 1, 1), of(2, 1, 1), of(1, 2, 1), of(1, 1, 2), of(2, 2, 2),
		of(2, 3, 4), of(4, 3, 2), of(3, 4, 2), of(5, 7, 3), of(1, 5, 3), of(5, 1, 3), of(5, 3, 1),
		of(1024, 1, 1), of(1, 1024, 1), of(1, 1, 1024),
		of(1024, 16, 1), of(16, 1, 1024), of(1, 1024, 16), of(128, 128, 1), of(32, 16, 32), of(2, 17, 481),
	}
}

// P5.1, P5.2: valid are just the shapes of sides from 1 to 1024 with a product
// of at most 16384, and theirs is the product.
func TestElemsOverAllLengths(t *testing.T) {
	valid := 0
	eachShape(func(s api.Shape) {
		want, ok := elems(s)
		wantErr := api.ErrShape
		if ok {
			valid++
			wantErr = api.OK
		}
		if got, e := shape.Elems(s); got != want || e != wantErr {
			t.Fatalf("Elems(%v) = %d, %d; want %d, %d", s, got, e, want, wantErr)
		}
	})
	if valid < 1000 {
		t.Fatalf("only %d of the shapes are valid: too few to tell", valid)
	}
}

// P5.1: the edges that the document names.
func TestElemsAtTheEdges(t *testing.T) {
	for _, r := range []struct {
		s    api.Shape
		want int
		err  api.Errno
	}{
		{of(1, 1, 1), 1, api.OK},
		{of(0, 1, 1), 0, api.ErrShape},
		{of(1, 0, 1), 0, api.ErrShape},
		{of(1, 1, 0), 0, api.ErrShape},
		{of(0, 0, 0), 0, api.ErrShape},
		{of(-1, 1, 1), 0, api.ErrShape},
		{of(-1, -1, 1), 0, api.ErrShape},
		{of(1, -1, -1), 0, api.ErrShape},
		{of(-1, 1, -1), 0, api.ErrShape},
		{of(1024, 1, 1), 1024, api.OK},
		{of(1, 1024, 1), 1024, api.OK},
		{of(1, 1, 1024), 1024, api.OK},
		{of(1025, 1, 1), 0, api.ErrShape},
		{of(1, 1025, 1), 0, api.ErrShape},
		{of(1, 1, 1025), 0, api.ErrShape},
		{of(1024, 16, 1), 16384, api.OK},
		{of(128, 128, 1), 16384, api.OK},
		{of(16, 32, 32), 16384, api.OK},
		{of(5, 29, 113), 0, api.ErrShape}, // 16385, the least product above
		{of(113, 5, 29), 0, api.ErrShape},
		{of(1, 113, 145), 0, api.ErrShape},
		{of(1024, 17, 1), 0, api.ErrShape},
		{of(128, 128, 2), 0, api.ErrShape},
		{of(1024, 1024, 1024), 0, api.ErrShape},
		{of(1<<62, 4, 1), 0, api.ErrShape},     // 2^64
		{of(1<<32, 1<<32, 1), 0, api.ErrShape}, // 2^64
		{of(1<<32+1, 1<<32+1, 1), 0, api.ErrShape},
		{of(math.MaxInt, math.MaxInt, 1), 0, api.ErrShape}, // 1, if it wraps
		{of(math.MinInt, math.MinInt, math.MinInt), 0, api.ErrShape},
	} {
		if got, e := shape.Elems(r.s); got != r.want || e != r.err {
			t.Errorf("Elems(%v) = %d, %d; want %d, %d", r.s, got, e, r.want, r.err)
		}
	}
}

// P5.1: each of the calls asks for a valid shape, ahead of everything else, and
// answers nothing beside the error.
func TestWhatIsNoShapeIsRefusedByAllCalls(t *testing.T) {
	eachShape(func(s api.Shape) {
		if _, ok := elems(s); ok {
			return
		}
		if row, column, e := shape.Strides(s); row != 0 || column != 0 || e != api.ErrShape {
			t.Fatalf("Strides(%v) = %d, %d, %d", s, row, column, e)
		}
		for _, at := range []int{math.MinInt, -1, 0, 1, 16384, math.MaxInt} {
			if got, e := shape.Place(s, at, at, at); got != 0 || e != api.ErrShape {
				t.Fatalf("Place(%v, %d, %d, %d) = %d, %d", s, at, at, at, got, e)
			}
			if y, x, c, e := shape.Where(s, at); y != 0 || x != 0 || c != 0 || e != api.ErrShape {
				t.Fatalf("Where(%v, %d) = %d, %d, %d, %d", s, at, y, x, c, e)
			}
		}
	})
}

// P5.2: the strides are W * C and C.
func TestStrides(t *testing.T) {
	eachShape(func(s api.Shape) {
		if _, ok := elems(s); !ok {
			return
		}
		if row, column, e := shape.Strides(s); row != s.W*s.C || column != s.C || e != api.OK {
			t.Fatalf("Strides(%v) = %d, %d, %d", s, row, column, e)
		}
	})
}

// P5.2: how much further the place is with the next row, and the next column.
func TestStridesAreWhatThePlaceGoesOnBy(t *testing.T) {
	for _, s := range small() {
		row, column, _ := shape.Strides(s)
		first, _ := shape.Place(s, 0, 0, 0)
		if below, e := shape.Place(s, 1, 0, 0); e == api.OK && below-first != row {
			t.Errorf("%v: the next row is %d further, not %d", s, below-first, row)
		}
		if beside, e := shape.Place(s, 0, 1, 0); e == api.OK && beside-first != column {
			t.Errorf("%v: the next column is %d further, not %d", s, beside-first, column)
		}
	}
}

// P5.3, P5.4: gone through row by row, column by column, channel by channel, the
// places are 0, 1, 2 and so on to Elems - 1, and each leads back.
func TestPlacesThereAndBack(t *testing.T) {
	for _, s := range small() {
		at := 0
		for y := range s.H {
			for x := range s.W {
				for c := range s.C {
					if got, e := shape.Place(s, y, x, c); got != at || e != api.OK {
						t.Fatalf("Place(%v, %d, %d, %d) = %d, %d; want %d", s, y, x, c, got, e, at)
					}
					if gy, gx, gc, e := shape.Where(s, at); gy != y || gx != x || gc != c || e != api.OK {
						t.Fatalf("Where(%v, %d) = %d, %d, %d, %d; want %d, %d, %d", s, at, gy, gx, gc, e, y, x, c)
					}
					at++
				}
			}
		}
		if n, e := shape.Elems(s); n != at || e != api.OK {
			t.Fatalf("Elems(%v) = %d, %d, but it has %d places", s, n, e, at)
		}
	}
}

// around are numbers at the first and the last of a side, one beyond either
// end, and far from both.
func around(side int) []int {
	return []int{math.MinInt, -side, -1, 0, side / 2, side - 1, side, side + 1, 1 << 32, 1 << 62, math.MaxInt}
}

// P5.3: ErrPlace, unless all three lie within the sides, even where the others
// would bring the sum back to a place that there is.
func TestPlaceAtTheEndsOfTheSides(t *testing.T) {
	for _, s := range small() {
		for _, y := range around(s.H) {
			for _, x := range around(s.W) {
				for _, c := range around(s.C) {
					want, wantErr := 0, api.ErrPlace
					if 0 <= y && y < s.H && 0 <= x && x < s.W && 0 <= c && c < s.C {
						want, wantErr = (y*s.W+x)*s.C+c, api.OK
					}
					if got, e := shape.Place(s, y, x, c); got != want || e != wantErr {
						t.Fatalf("Place(%v, %d, %d, %d) = %d, %d; want %d, %d", s, y, x, c, got, e, want, wantErr)
					}
				}
			}
		}
	}
}

// P5.4: the first and the last place are there, one beyond either end isn't.
func TestWhereAtTheEnds(t *testing.T) {
	for _, s := range small() {
		n := s.H * s.W * s.C
		if y, x, c, e := shape.Where(s, 0); y != 0 || x != 0 || c != 0 || e != api.OK {
			t.Errorf("Where(%v, 0) = %d, %d, %d, %d", s, y, x, c, e)
		}
		if y, x, c, e := shape.Where(s, n-1); y != s.H-1 || x != s.W-1 || c != s.C-1 || e != api.OK {
			t.Errorf("Where(%v, %d) = %d, %d, %d, %d", s, n-1, y, x, c, e)
		}
		for _, at := range []int{math.MinInt, -n, -1, n, n + 1, 2 * n, 1 << 32, math.MaxInt} {
			if y, x, c, e := shape.Where(s, at); y != 0 || x != 0 || c != 0 || e != api.ErrPlace {
				t.Errorf("Where(%v, %d) = %d, %d, %d, %d; want ErrPlace", s, at, y, x, c, e)
			}
		}
	}
}

// The chapter's examples.
func TestExamples(t *testing.T) {
	s := of(2, 3, 4)
	if n, e := shape.Elems(s); n != 24 || e != api.OK {
		t.Error("Elems", n, e)
	}
	if row, column, e := shape.Strides(s); row != 12 || column != 4 || e != api.OK {
		t.Error("Strides", row, column, e)
	}
	if at, e := shape.Place(s, 1, 2, 3); at != 23 || e != api.OK {
		t.Error("Place", at, e)
	}
	if at, e := shape.Place(s, 2, 0, 0); at != 0 || e != api.ErrPlace {
		t.Error("Place beyond", at, e)
	}
	if y, x, c, e := shape.Where(s, 13); y != 1 || x != 0 || c != 1 || e != api.OK {
		t.Error("Where", y, x, c, e)
	}
	if y, x, c, e := shape.Where(s, 24); y != 0 || x != 0 || c != 0 || e != api.ErrPlace {
		t.Error("Where beyond", y, x, c, e)
	}
}

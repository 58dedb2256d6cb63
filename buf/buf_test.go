package buf_test

import (
	"math"
	"slices"
	"testing"

	"spillway/api"
	"spillway/buf"
)

// Types of one's own, one made of each that Num names.
type (
	own8  int8
	own16 int16
	own32 int32
	own64 int64
)

// kind is a type of numbers with its two ends, as they are written, not asked
// of the type.
type kind[T buf.Num] struct {
	name      string
	low, high int64
}

func kinds() (kind[int8], kind[int16], kind[int32], kind[int64]) {
	return kind[int8]{"int8", math.MinInt8, math.MaxInt8},
		kind[int16]{"int16", math.MinInt16, math.MaxInt16},
		kind[int32]{"int32", math.MinInt32, math.MaxInt32},
		kind[int64]{"int64", math.MinInt64, math.MaxInt64}
}

func owns() (kind[own8], kind[own16], kind[own32], kind[own64]) {
	return kind[own8]{"own8", math.MinInt8, math.MaxInt8},
		kind[own16]{"own16", math.MinInt16, math.MaxInt16},
		kind[own32]{"own32", math.MinInt32, math.MaxInt32},
		kind[own64]{"own64", math.MinInt64, math.MaxInt64}
}

func of(h, w, c int) api.Shape { return api.Shape{H: h, W: w, C: c} }

// row is a shape of n places in a row.
func row(n int) api.Shape { return of(1, 1, n) }

// sized is a valid shape with as many places as it has.
type sized struct {
	s     api.Shape
	elems int
}

// valid are shapes with each side alone longer than 1, no two sides alike, the
// longest side at each place, and as many places as there may be.
func valid() []sized {
	return []sized{
		{of(1, 1, 1), 1}, {of(2, 1, 1), 2}, {of(1, 3, 1), 3}, {of(1, 1, 5), 5},
		{of(2, 3, 4), 24}, {of(4, 3, 2), 24}, {of(5, 7, 3), 105},
		{of(1024, 1, 1), 1024}, {of(1, 1024, 1), 1024}, {of(1, 1, 1024), 1024},
		{of(128, 128, 1), 16384}, {of(16, 1024, 1), 16384}, {of(16, 32, 32), 16384},
	}
}

// invalid are shapes with a side too short or too long, with too many places,
// and such whose places come round to something small in 64 bits.
func invalid() []api.Shape {
	return []api.Shape{
		{}, of(0, 1, 1), of(1, 0, 1), of(1, 1, 0), of(-1, 1, 1), of(-1, -1, 1), of(1, -1, -2), of(-1, 1, -1),
		of(1025, 1, 1), of(1, 1025, 1), of(1, 1, 1025), of(128, 128, 2), of(5, 29, 113), of(1024, 1024, 1024),
		of(1<<32, 1<<32, 1), of(1<<32+1, 1<<32+1, 1), of(1<<62, 4, 1), of(math.MaxInt, math.MaxInt, 1),
		of(math.MinInt, 1, 1), of(math.MinInt, math.MinInt, math.MinInt),
	}
}

// wide are places that no buffer has, up to the ends of 64 bits.
func wide() []int {
	return []int{
		math.MinInt, math.MinInt + 1, -1 << 62, -1 << 32, -16384, -2, -1,
		16385, 1 << 31, 1 << 32, 1 << 62, math.MaxInt - 16384, math.MaxInt - 1, math.MaxInt,
	}
}

// numbers are n numbers of T, both ends of it among them where there is room,
// and no long run of them alike.
func numbers[T buf.Num](k kind[T], n int) []T {
	list := make([]T, n)
	for i := range list {
		switch i % 5 {
		case 0:
			list[i] = T(k.high - int64(i%97))
		case 1:
			list[i] = T(k.low + int64(i%89))
		case 2:
			list[i] = T(-1 - i%101)
		default:
			list[i] = T(i % 113)
		}
	}
	return list
}

// made is a buffer that must be had.
func made[T buf.Num](t *testing.T, s api.Shape, list []T) *buf.Buf[T] {
	t.Helper()
	b, e := buf.From(s, list)
	if b == nil || e != api.OK {
		t.Fatalf("From(%v) of %d numbers = %v, %d", s, len(list), b, e)
	}
	return b
}

// holds asks a buffer for all that it has, by every call that tells it.
func holds[T buf.Num](t *testing.T, b *buf.Buf[T], s api.Shape, want []T) {
	t.Helper()
	if b.Len() != len(want) || b.Shape() != s || !slices.Equal(b.List(), want) {
		t.Fatalf("%d numbers, shape %v, list %v; want %d, %v, %v", b.Len(), b.Shape(), b.List(), len(want), s, want)
	}
	for at, x := range want {
		if got, e := b.At(at); got != x || e != api.OK {
			t.Fatalf("At(%d) = %d, %d; want %d", at, got, e, x)
		}
	}
	if view, e := b.View(0, len(want)); !slices.Equal(view, want) || e != api.OK {
		t.Fatalf("View(0, %d) = %v, %d; want %v", len(want), view, e, want)
	}
	low, high, ok := b.Ends()
	if low != slices.Min(want) || high != slices.Max(want) || !ok {
		t.Fatalf("Ends() = %d, %d, %v; want %d, %d", low, high, ok, slices.Min(want), slices.Max(want))
	}
}

// each runs the tests that are asked of every type of numbers.
func each[T buf.Num](t *testing.T, k kind[T]) {
	t.Run(k.name, func(t *testing.T) {
		t.Run("New", func(t *testing.T) { testNew[T](t) })
		t.Run("From", func(t *testing.T) { testFrom(t, k) })
		t.Run("Shapes", func(t *testing.T) { testShapes[T](t) })
		t.Run("Lengths", func(t *testing.T) { testLengths[T](t) })
		t.Run("Places", func(t *testing.T) { testPlaces(t, k) })
		t.Run("View", func(t *testing.T) { testView(t, k) })
		t.Run("WideView", func(t *testing.T) { testWideView[T](t) })
		t.Run("Ends", func(t *testing.T) { testEnds(t, k) })
		t.Run("Nothing", func(t *testing.T) { testNothing[T](t) })
		t.Run("FromKeepsNothing", func(t *testing.T) { testFromKeepsNothing(t, k) })
		t.Run("AnswersAreNew", func(t *testing.T) { testAnswersAreNew(t, k) })
		t.Run("BuffersShareNothing", func(t *testing.T) { testBuffersShareNothing[T](t) })
		t.Run("NoMaker", func(t *testing.T) { testNoMaker[T](t) })
	})
}

func TestEachType(t *testing.T) {
	a, b, c, d := kinds()
	each(t, a)
	each(t, b)
	each(t, c)
	each(t, d)
	e, f, g, h := owns()
	each(t, e)
	each(t, f)
	each(t, g)
	each(t, h)
}

// P7.1, P7.2: a new buffer is of its shape and all 0.
func testNew[T buf.Num](t *testing.T) {
	for _, v := range valid() {
		b, e := buf.New[T](v.s)
		if b == nil || e != api.OK {
			t.Fatalf("New(%v) = %v, %d", v.s, b, e)
		}
		holds(t, b, v.s, make([]T, v.elems))
	}
}

// P7.1, P7.2: a buffer from a list has its numbers, in its order.
func testFrom[T buf.Num](t *testing.T, k kind[T]) {
	for _, v := range valid() {
		list := numbers(k, v.elems)
		holds(t, made(t, v.s, list), v.s, list)
	}
}

// P7.1: a shape that isn't valid is told, and ahead of a list's length.
func testShapes[T buf.Num](t *testing.T) {
	for _, s := range invalid() {
		if b, e := buf.New[T](s); b != nil || e != api.ErrShape {
			t.Errorf("New(%v) = %v, %d", s, b, e)
		}
		for _, list := range [][]T{nil, {}, {1}, {1, 2}, make([]T, 16384), make([]T, 16385), make([]T, 32768)} {
			if b, e := buf.From(s, list); b != nil || e != api.ErrShape {
				t.Errorf("From(%v) of %d numbers = %v, %d", s, len(list), b, e)
			}
		}
	}
}

// P7.1: lists that are empty, one too short, one too long, and some else. Room
// that a list has to spare makes it no longer.
func testLengths[T buf.Num](t *testing.T) {
	for _, v := range valid() {
		roomy := make([]T, v.elems-1, v.elems+1)
		lists := [][]T{nil, {}, make([]T, v.elems-1), roomy, make([]T, v.elems+1), make([]T, 2*v.elems), make([]T, 3+16384)}
		for _, list := range lists {
			if b, e := buf.From(v.s, list); b != nil || e != api.ErrLens {
				t.Errorf("From(%v) of %d numbers = %v, %d", v.s, len(list), b, e)
			}
		}
	}
}

// P7.3: every place can be set, which changes no other; beyond either end there
// is none, and what is set there is lost.
func testPlaces[T buf.Num](t *testing.T, k kind[T]) {
	for _, v := range valid()[:7] {
		list := numbers(k, v.elems)
		b := made(t, v.s, list)
		for at := range v.elems {
			for _, x := range []T{T(k.low), T(k.high), 0, -1, T(7 + at)} {
				list[at] = x
				if e := b.Set(at, x); e != api.OK {
					t.Fatalf("Set(%d, %d) = %d", at, x, e)
				}
				holds(t, b, v.s, list)
			}
		}
		for _, at := range append(wide(), v.elems, v.elems+1) {
			if x, e := b.At(at); x != 0 || e != api.ErrPlace {
				t.Errorf("%v: At(%d) = %d, %d", v.s, at, x, e)
			}
			if e := b.Set(at, T(k.high)); e != api.ErrPlace {
				t.Errorf("%v: Set(%d) = %d", v.s, at, e)
			}
		}
		holds(t, b, v.s, list)
	}
}

// P7.4: every view of a small buffer, those of no numbers and those that end
// just at Len among them, and all that reach beyond either end.
func testView[T buf.Num](t *testing.T, k kind[T]) {
	for _, n := range []int{1, 2, 5, 24} {
		list := numbers(k, n)
		b := made(t, row(n), list)
		for from := -2; from <= n+2; from++ {
			for count := -2; count <= n+2; count++ {
				view, e := b.View(from, count)
				if from < 0 || count < 0 || from+count > n {
					if len(view) != 0 || e != api.ErrPlace {
						t.Fatalf("of %d: View(%d, %d) = %v, %d", n, from, count, view, e)
					}
				} else if !slices.Equal(view, list[from:from+count]) || e != api.OK {
					t.Fatalf("of %d: View(%d, %d) = %v, %d", n, from, count, view, e)
				}
			}
		}
	}
}

// P7.4: numbers as great as 64 bits hold, such among them that come round, when
// they are added up, to something that the buffer has.
func testWideView[T buf.Num](t *testing.T) {
	for _, v := range []sized{{row(1), 1}, {row(5), 5}, {of(128, 128, 1), 16384}} {
		b, _ := buf.New[T](v.s)
		some := append(wide(), 0, 1, v.elems-1, v.elems, v.elems+1)
		for _, from := range some {
			for _, n := range some {
				fits := from >= 0 && n >= 0 && from <= v.elems && n <= v.elems && from+n <= v.elems
				view, e := b.View(from, n)
				if fits && (len(view) != n || e != api.OK) || !fits && (len(view) != 0 || e != api.ErrPlace) {
					t.Fatalf("of %d: View(%d, %d) has %d, %d", v.elems, from, n, len(view), e)
				}
			}
		}
	}
}

// P7.5: the ends of T at each place of a list, on either side of 0 alone, and
// with what Set makes of it.
func testEnds[T buf.Num](t *testing.T, k kind[T]) {
	low, high := T(k.low), T(k.high)
	for _, r := range []struct {
		list            []T
		least, greatest T
	}{
		{[]T{0}, 0, 0}, {[]T{low}, low, low}, {[]T{high}, high, high},
		{[]T{low, high}, low, high}, {[]T{high, low}, low, high},
		{[]T{3, 1, 2}, 1, 3}, {[]T{1, 3, 2}, 1, 3}, {[]T{2, 1, 3}, 1, 3}, {[]T{-3, -1, -2}, -3, -1},
		{[]T{0, low, 0}, low, 0}, {[]T{0, 0, high}, 0, high}, {[]T{low + 1, low, low + 1}, low, low + 1},
		{[]T{high - 1, high, high - 1}, high - 1, high}, {[]T{5, 5, 5}, 5, 5},
	} {
		b := made(t, row(len(r.list)), r.list)
		if least, greatest, ok := b.Ends(); least != r.least || greatest != r.greatest || !ok {
			t.Errorf("Ends of %v = %d, %d, %v", r.list, least, greatest, ok)
		}
	}
	for at := range 5 {
		b := made(t, row(5), []T{low, high, low, high, 1})
		for i := range 5 {
			b.Set(i, 4)
		}
		b.Set(at, 9)
		if least, greatest, ok := b.Ends(); least != 4 || greatest != 9 || !ok {
			t.Errorf("Ends with 9 at %d = %d, %d, %v", at, least, greatest, ok)
		}
		b.Set(at, -9)
		if least, greatest, ok := b.Ends(); least != -9 || greatest != 4 || !ok {
			t.Errorf("Ends with -9 at %d = %d, %d, %v", at, least, greatest, ok)
		}
	}
}

// P7.7, and rule 9: a nil buffer at every call, ahead of any other fault.
func testNothing[T buf.Num](t *testing.T) {
	var b *buf.Buf[T]
	if n, s, list := b.Len(), b.Shape(), b.List(); n != 0 || s != (api.Shape{}) || len(list) != 0 {
		t.Errorf("of nil: Len %d, Shape %v, List %v", n, s, list)
	}
	for _, at := range append(wide(), 0, 1) {
		if x, e := b.At(at); x != 0 || e != api.ErrNil {
			t.Errorf("of nil: At(%d) = %d, %d", at, x, e)
		}
		if e := b.Set(at, 1); e != api.ErrNil {
			t.Errorf("of nil: Set(%d) = %d", at, e)
		}
		for _, n := range append(wide(), 0, 1) {
			if view, e := b.View(at, n); len(view) != 0 || e != api.ErrNil {
				t.Errorf("of nil: View(%d, %d) = %v, %d", at, n, view, e)
			}
		}
	}
	if least, greatest, ok := b.Ends(); least != 0 || greatest != 0 || ok {
		t.Errorf("of nil: Ends = %d, %d, %v", least, greatest, ok)
	}
}

// P7.7: From keeps neither the list nor its spare room, and changes neither it
// nor what stands behind it; nor does Set on the buffer.
func testFromKeepsNothing[T buf.Num](t *testing.T, k kind[T]) {
	v := sized{of(2, 3, 4), 24}
	whole := numbers(k, v.elems+3)
	before := slices.Clone(whole)
	b := made(t, v.s, whole[1:1+v.elems])
	for at := range v.elems {
		b.Set(at, 77)
	}
	if !slices.Equal(whole, before) {
		t.Errorf("the list that From was handed became %v", whole)
	}
	b = made(t, v.s, whole[1:1+v.elems])
	for i := range whole {
		whole[i] = 55
	}
	holds(t, b, v.s, before[1:1+v.elems])
}

// overwrite writes into all of a list, its spare room too.
func overwrite[T buf.Num](list []T) {
	for i := range list[:cap(list)] {
		list[:cap(list)][i] = 66
	}
}

// P7.7: what List and View answer is new each time: written over, it changes
// neither the buffer nor another answer; and Set changes no answer.
func testAnswersAreNew[T buf.Num](t *testing.T, k kind[T]) {
	s, list := of(2, 3, 4), numbers(k, 24)
	b := made(t, s, list)
	ask := func(from, n int) []T {
		if from < 0 {
			return b.List()
		}
		view, _ := b.View(from, n)
		return view
	}
	for _, r := range [][2]int{{-1, 0}, {0, 24}, {0, 23}, {1, 23}, {5, 7}, {23, 1}, {0, 1}, {0, 0}, {12, 0}, {24, 0}} {
		first, second := ask(r[0], r[1]), ask(r[0], r[1])
		before := slices.Clone(second)
		overwrite(first)
		if !slices.Equal(second, before) {
			t.Fatalf("two answers of %v share memory", r)
		}
		holds(t, b, s, list)
		for at := range list {
			b.Set(at, 44)
		}
		if !slices.Equal(second, before) {
			t.Fatalf("Set changed an answer of %v", r)
		}
		for at, x := range list {
			b.Set(at, x)
		}
	}
}

// P7.7: two buffers that were made alike share nothing.
func testBuffersShareNothing[T buf.Num](t *testing.T) {
	s, list := of(1, 2, 2), []T{1, 2, 3, 4}
	a, b := made(t, s, list), made(t, s, list)
	c, _ := buf.New[T](s)
	d, _ := buf.New[T](s)
	for at := range 4 {
		a.Set(at, 9)
		c.Set(at, 8)
	}
	holds(t, a, s, []T{9, 9, 9, 9})
	holds(t, b, s, []T{1, 2, 3, 4})
	holds(t, c, s, []T{8, 8, 8, 8})
	holds(t, d, s, []T{0, 0, 0, 0})
}

// P1: a buffer that no maker answered is taken by every call without a panic.
func testNoMaker[T buf.Num](t *testing.T) {
	b := new(buf.Buf[T])
	b.Len()
	b.Shape()
	b.List()
	b.Ends()
	for _, at := range append(wide(), 0, 1) {
		b.At(at)
		b.Set(at, 1)
		for _, n := range append(wide(), 0, 1) {
			b.View(at, n)
		}
	}
	buf.Convert[T, int8](b)
	buf.Convert[T, own64](b)
}

// P7.6: from every type to every other.
func TestConvert(t *testing.T) {
	a, b, c, d := kinds()
	convertFrom(t, a)
	convertFrom(t, b)
	convertFrom(t, c)
	convertFrom(t, d)
	e, f, g, h := owns()
	convertFrom(t, e)
	convertFrom(t, f)
	convertFrom(t, g)
	convertFrom(t, h)
}

func convertFrom[T buf.Num](t *testing.T, from kind[T]) {
	a, b, c, d := kinds()
	convert(t, from, a)
	convert(t, from, b)
	convert(t, from, c)
	convert(t, from, d)
	e, f, g, h := owns()
	convert(t, from, e)
	convert(t, from, f)
	convert(t, from, g)
	convert(t, from, h)
}

func convert[T, U buf.Num](t *testing.T, from kind[T], to kind[U]) {
	t.Run(from.name+" to "+to.name, func(t *testing.T) {
		t.Run("Numbers", func(t *testing.T) { testConvertNumbers(t, from, to) })
		t.Run("Whole", func(t *testing.T) { testConvertWhole[T, U](t) })
		t.Run("New", func(t *testing.T) { testConvertIsNew[T, U](t) })
		t.Run("Nothing", func(t *testing.T) {
			if c, e := buf.Convert[T, U](nil); c != nil || e != api.ErrNil {
				t.Errorf("of nil: %v, %d", c, e)
			}
		})
	})
}

// edges are the numbers of T about each power of two and about the ends of
// every type, such among them whose low bits alone are a small number.
func edges[T buf.Num](k kind[T]) []int64 {
	all := []int64{0, 1, -1, math.MinInt64, math.MinInt64 + 1, math.MaxInt64 - 1, math.MaxInt64}
	for n := range 63 {
		p := int64(1) << n
		all = append(all, p-2, p-1, p, p+1, -p-2, -p-1, -p, -p+1)
	}
	return slices.DeleteFunc(all, func(x int64) bool { return x < k.low || x > k.high })
}

// P7.6: a number alone, and at the first, a middle and the last place among
// others: it is taken as it is, or ErrOver, and the buffer stays as it was.
func testConvertNumbers[T, U buf.Num](t *testing.T, from kind[T], to kind[U]) {
	for _, x := range edges(from) {
		fits := to.low <= x && x <= to.high
		for _, n := range []int{1, 5} {
			for _, at := range []int{0, n / 2, n - 1} {
				list, want := make([]T, n), make([]U, n)
				list[at], want[at] = T(x), U(x)
				b := made(t, row(n), list)
				c, e := buf.Convert[T, U](b)
				if !fits {
					if c != nil || e != api.ErrOver {
						t.Fatalf("of %v: %v, %d; want ErrOver", list, c, e)
					}
				} else if c == nil || e != api.OK || int64(c.List()[at]) != x {
					t.Fatalf("of %v: %v, %d", list, c, e)
				} else {
					holds(t, c, row(n), want)
				}
				holds(t, b, row(n), list)
			}
		}
	}
}

// P7.6: a buffer of each shape, whole: its shape and all its numbers in order.
func testConvertWhole[T, U buf.Num](t *testing.T) {
	for _, v := range valid() {
		list, want := make([]T, v.elems), make([]U, v.elems)
		for i := range list {
			x := i*37%256 - 128
			list[i], want[i] = T(x), U(x)
		}
		c, e := buf.Convert[T, U](made(t, v.s, list))
		if c == nil || e != api.OK {
			t.Fatalf("of the shape %v: %v, %d", v.s, c, e)
		}
		holds(t, c, v.s, want)
	}
}

// P7.7: what Convert answers shares nothing with what it was made from, though
// both be of one type.
func testConvertIsNew[T, U buf.Num](t *testing.T) {
	s := of(1, 2, 2)
	b := made(t, s, []T{1, -2, 3, 4})
	c, _ := buf.Convert[T, U](b)
	for at := range 4 {
		b.Set(at, 9)
	}
	holds(t, c, s, []U{1, -2, 3, 4})
	for at := range 4 {
		c.Set(at, 8)
	}
	holds(t, b, s, []T{9, 9, 9, 9})
}

// The chapter's first example.
func TestExampleOfNew(t *testing.T) {
	b, e := buf.New[int8](of(1, 2, 2))
	if e != api.OK || b.Len() != 4 || !slices.Equal(b.List(), []int8{0, 0, 0, 0}) {
		t.Fatal("New", e)
	}
	if e := b.Set(3, -5); e != api.OK {
		t.Error("Set(3, -5)", e)
	}
	if x, e := b.At(3); x != -5 || e != api.OK {
		t.Error("At(3)", x, e)
	}
	if x, e := b.At(4); x != 0 || e != api.ErrPlace {
		t.Error("At(4)", x, e)
	}
	if least, greatest, ok := b.Ends(); least != -5 || greatest != 0 || !ok {
		t.Error("Ends", least, greatest, ok)
	}
	if view, e := b.View(2, 2); !slices.Equal(view, []int8{0, -5}) || e != api.OK {
		t.Error("View(2, 2)", view, e)
	}
	if view, e := b.View(3, 2); len(view) != 0 || e != api.ErrPlace {
		t.Error("View(3, 2)", view, e)
	}
	if view, e := b.View(4, 0); len(view) != 0 || e != api.OK {
		t.Error("View(4, 0)", view, e)
	}
}

// The chapter's second example.
func TestExampleOfConvert(t *testing.T) {
	s := of(1, 1, 2)
	b := made(t, s, []int16{300, -300})
	if c, e := buf.Convert[int16, int8](b); c != nil || e != api.ErrOver {
		t.Error("to int8", c, e)
	}
	c, e := buf.Convert[int16, int32](b)
	if e != api.OK {
		t.Fatal("to int32", e)
	}
	holds(t, c, s, []int32{300, -300})
	if b, e := buf.From(s, []int16{1}); b != nil || e != api.ErrLens {
		t.Error("From of one", b, e)
	}
}

// The errors are told by the document's numbers.
func TestErrorsByNumber(t *testing.T) {
	var none *buf.Buf[int8]
	b := made(t, row(1), []int16{128})
	_, noShape := buf.New[int8](of(0, 1, 1))
	_, noLens := buf.From(row(2), []int8{1})
	_, noPlace := b.At(1)
	_, over := buf.Convert[int16, int8](b)
	got := []api.Errno{none.Set(0, 0), noPlace, over, noShape, noLens, b.Set(0, 1)}
	if want := []api.Errno{1, 3, 10, 50, 70, 0}; !slices.Equal(got, want) {
		t.Errorf("the errors are %d; want %d", got, want)
	}
}

package window_test

import (
	"iter"
	"math"
	"slices"
	"testing"

	"spillway/api"
	"spillway/window"
)

func of(h, w, c int) api.Shape { return api.Shape{H: h, W: w, C: c} }

// kernel is a window of that size and steps without padding.
func kernel(kh, kw, sh, sw int) api.Window {
	return api.Window{KH: kh, KW: kw, SH: sh, SW: sw}
}

func padded(w api.Window, top, left, bottom, right int) api.Window {
	w.Top, w.Left, w.Bottom, w.Right = top, left, bottom, right
	return w
}

type pair [2]int

func pairs(seq iter.Seq2[int, int]) []pair {
	var all []pair
	for a, b := range seq {
		all = append(all, pair{a, b})
	}
	return all
}

// drawing is a window over a plane, worked out by drawing the plane with its
// padding about it and pushing the window over the paper, step by step.
type drawing struct {
	rows, columns int
	positions     []pair
	covered       [][]int // of each position, tap by tap
}

func draw(s api.Shape, w api.Window) drawing {
	paper := make([][]int, w.Top+s.H+w.Bottom)
	next := 0
	for y := range paper {
		paper[y] = slices.Repeat([]int{-1}, w.Left+s.W+w.Right)
		if y < w.Top || y >= w.Top+s.H {
			continue
		}
		for x := w.Left; x < w.Left+s.W; x++ {
			paper[y][x] = next
			next++
		}
	}
	var d drawing
	for y := 0; y+w.KH <= len(paper); y += w.SH {
		d.columns = 0
		for x := 0; x+w.KW <= len(paper[0]); x += w.SW {
			d.positions = append(d.positions, pair{d.rows, d.columns})
			var covered []int
			for _, line := range paper[y : y+w.KH] {
				covered = append(covered, line[x:x+w.KW]...)
			}
			d.covered = append(d.covered, covered)
			d.columns++
		}
		d.rows++
	}
	return d
}

// paddings are all that a window of that size may have at one side, up to 3,
// and the greatest.
func paddings(size int) []int {
	var all []int
	for n := range min(size, 4) {
		all = append(all, n)
	}
	if size > 4 {
		all = append(all, size-1)
	}
	return all
}

// eachWindow calls f with every valid window of that size and such steps.
func eachWindow(kh, kw int, steps []int, f func(w api.Window)) {
	for _, sh := range steps {
		for _, sw := range steps {
			for _, top := range paddings(kh) {
				for _, left := range paddings(kw) {
					for _, bottom := range paddings(kh) {
						for _, right := range paddings(kw) {
							f(padded(kernel(kh, kw, sh, sw), top, left, bottom, right))
						}
					}
				}
			}
		}
	}
}

// eachPlaced calls f with small planes and every small window over them,
// whether it fits or not: windows all within the plane and such that reach
// beyond each of its sides, longer than a side, and with steps that leave some
// of the plane out.
func eachPlaced(f func(s api.Shape, w api.Window)) {
	for _, s := range []api.Shape{of(1, 1, 1), of(1, 4, 2), of(4, 1, 1), of(2, 3, 1), of(3, 2, 7), of(5, 4, 1)} {
		for kh := 1; kh <= 4; kh++ {
			for kw := 1; kw <= 4; kw++ {
				eachWindow(kh, kw, []int{1, 2, 3, 5}, func(w api.Window) { f(s, w) })
			}
		}
	}
}

// great are placed windows with numbers at the limits.
func great() []struct {
	s api.Shape
	w api.Window
} {
	return []struct {
		s api.Shape
		w api.Window
	}{
		{of(128, 128, 1), padded(kernel(32, 32, 1, 1), 31, 31, 31, 31)},
		{of(128, 128, 1), kernel(32, 32, 32, 32)},
		{of(1024, 16, 1), padded(kernel(32, 16, 32, 1), 31, 15, 31, 15)},
		{of(16, 1024, 1), padded(kernel(16, 32, 1, 32), 15, 31, 15, 31)},
		{of(1024, 1, 16), padded(kernel(32, 32, 1, 32), 0, 31, 0, 31)},
		{of(1, 1024, 16), padded(kernel(32, 32, 32, 1), 31, 0, 31, 0)},
		{of(1, 1, 1024), padded(kernel(32, 32, 1, 1), 31, 31, 31, 31)},
		{of(1, 1, 1), kernel(1, 1, 32, 32)},
		{of(32, 32, 16), kernel(32, 32, 1, 1)},
	}
}

// wide are numbers that no window has, at the ends of 64 bits among them, and
// such that come round to something small when they are added up.
func wide() []int {
	return []int{
		math.MinInt, math.MinInt + 1, -1 << 62, -1 << 32, -1024, -33, -32, -1,
		1024, 1 << 31, 1 << 32, 1 << 62, math.MaxInt - 1, math.MaxInt,
	}
}

// fields are the places of a window's numbers, each to be set alone.
func fields(w *api.Window) []*int {
	return []*int{&w.KH, &w.KW, &w.SH, &w.SW, &w.Top, &w.Left, &w.Bottom, &w.Right}
}

// P6.1: the edges of a window's size and steps, each with the rest in order.
func TestValidSizesAndSteps(t *testing.T) {
	for i := range 4 {
		for n, want := range map[int]bool{-1: false, 0: false, 1: true, 2: true, 31: true, 32: true, 33: false} {
			w := kernel(7, 7, 7, 7)
			*fields(&w)[i] = n
			if got := window.Valid(w); got != want {
				t.Errorf("Valid(%v) = %v", w, got)
			}
		}
	}
}

// P6.1: the edges of each padding; each hangs on the size of its own side.
func TestValidPaddings(t *testing.T) {
	for _, size := range []pair{{1, 1}, {3, 5}, {5, 3}, {1, 32}, {32, 1}, {32, 32}} {
		for i := 4; i < 8; i++ {
			most := size[i%2] - 1
			for n, want := range map[int]bool{-1: false, 0: true, most: true, most + 1: false} {
				w := kernel(size[0], size[1], 1, 1)
				*fields(&w)[i] = n
				if got := window.Valid(w); got != want {
					t.Errorf("Valid(%v) = %v", w, got)
				}
			}
		}
	}
	if w := padded(kernel(32, 32, 32, 32), 31, 31, 31, 31); !window.Valid(w) {
		t.Errorf("Valid(%v) = false", w)
	}
}

// P6.1: numbers as great as 64 bits hold, one and two at a time, make no valid
// window, and none that fits.
func TestWideNumbersAreNotValid(t *testing.T) {
	s := of(9, 9, 1)
	for i := range 8 {
		for j := range 8 {
			for _, a := range wide() {
				for _, b := range wide() {
					w := padded(kernel(3, 3, 1, 1), 1, 1, 1, 1)
					*fields(&w)[i], *fields(&w)[j] = a, b
					if window.Valid(w) {
						t.Fatalf("Valid(%v)", w)
					}
					refused(t, s, w, api.ErrWindow)
				}
			}
		}
	}
}

// refused holds all calls of a window over a plane to one error, and to nothing
// beside it.
func refused(t *testing.T, s api.Shape, w api.Window, want api.Errno) {
	t.Helper()
	if rows, columns, e := window.Out(s, w); rows != 0 || columns != 0 || e != want {
		t.Fatalf("Out(%v, %v) = %d, %d, %d; want %d", s, w, rows, columns, e, want)
	}
	for y, x := range window.Positions(s, w) {
		t.Fatalf("Positions(%v, %v) gives %d, %d", s, w, y, x)
	}
	for _, at := range []int{math.MinInt, -1, 0, 1, math.MaxInt} {
		for k, p := range window.Taps(s, w, at) {
			t.Fatalf("Taps(%v, %v, %d) gives %d, %d", s, w, at, k, p)
		}
		if n, e := window.Padded(s, w, at); n != 0 || e != want {
			t.Fatalf("Padded(%v, %v, %d) = %d, %d; want %d", s, w, at, n, e, want)
		}
	}
}

// P6.1, P6.2, P6.3, P6.5: a shape that isn't valid is told ahead of a window
// that isn't, and of a position that there isn't.
func TestShapesThatAreNotValid(t *testing.T) {
	windows := []api.Window{kernel(1, 1, 1, 1), kernel(2, 2, 1, 1), {}, kernel(33, 1, 1, 1), kernel(1, 1, 0, math.MinInt)}
	for _, s := range []api.Shape{
		{}, of(0, 4, 1), of(4, 0, 1), of(4, 4, 0), of(-4, -4, 1), of(4, 4, -1),
		of(1025, 4, 1), of(4, 1025, 1), of(4, 4, 1025), of(128, 128, 2), of(113, 145, 1),
		of(math.MaxInt, 1, 1), of(1, math.MaxInt, 1), of(1, 1, math.MinInt), of(math.MinInt, math.MinInt, 1), of(1<<32, 1<<32, 1),
	} {
		for _, w := range windows {
			refused(t, s, w, api.ErrShape)
		}
	}
}

// P6.1, P6.2, P6.3, P6.5: windows that aren't valid over planes that are.
func TestWindowsThatAreNotValid(t *testing.T) {
	for _, s := range []api.Shape{of(1, 1, 1), of(4, 4, 1), of(128, 128, 1)} {
		for _, w := range []api.Window{
			{}, kernel(0, 1, 1, 1), kernel(1, 0, 1, 1), kernel(1, 1, 0, 1), kernel(1, 1, 1, 0),
			kernel(33, 1, 1, 1), kernel(1, 33, 1, 1), kernel(1, 1, 33, 1), kernel(1, 1, 1, 33),
			kernel(-1, 1, 1, 1), kernel(1, -1, 1, 1), kernel(1, 1, -1, 1), kernel(1, 1, 1, -1),
			padded(kernel(2, 3, 1, 1), 2, 0, 0, 0), padded(kernel(2, 3, 1, 1), 0, 3, 0, 0),
			padded(kernel(2, 3, 1, 1), 0, 0, 2, 0), padded(kernel(2, 3, 1, 1), 0, 0, 0, 3),
			padded(kernel(3, 2, 1, 1), -1, 0, 0, 0), padded(kernel(3, 2, 1, 1), 0, -1, 0, 0),
			padded(kernel(3, 2, 1, 1), 0, 0, -1, 0), padded(kernel(3, 2, 1, 1), 0, 0, 0, -1),
		} {
			if window.Valid(w) {
				t.Errorf("Valid(%v)", w)
			}
			refused(t, s, w, api.ErrWindow)
		}
	}
}

// P6.1: windows that just fit and such that just don't, by each of the sides
// and its paddings.
func TestOutAtTheEdges(t *testing.T) {
	for _, r := range []struct {
		s             api.Shape
		w             api.Window
		rows, columns int
		err           api.Errno
	}{
		{of(1, 1, 1), kernel(1, 1, 1, 1), 1, 1, api.OK},
		{of(4, 4, 1), kernel(4, 4, 1, 1), 1, 1, api.OK},
		{of(4, 4, 1), kernel(5, 4, 1, 1), 0, 0, api.ErrWindow},
		{of(4, 4, 1), kernel(4, 5, 1, 1), 0, 0, api.ErrWindow},
		{of(4, 4, 1), padded(kernel(5, 4, 1, 1), 1, 0, 0, 0), 1, 1, api.OK},
		{of(4, 4, 1), padded(kernel(5, 4, 1, 1), 0, 0, 1, 0), 1, 1, api.OK},
		{of(4, 4, 1), padded(kernel(5, 4, 1, 1), 0, 3, 0, 3), 0, 0, api.ErrWindow},
		{of(4, 4, 1), padded(kernel(4, 5, 1, 1), 0, 1, 0, 0), 1, 1, api.OK},
		{of(4, 4, 1), padded(kernel(4, 5, 1, 1), 0, 0, 0, 1), 1, 1, api.OK},
		{of(4, 4, 1), padded(kernel(4, 5, 1, 1), 3, 0, 3, 0), 0, 0, api.ErrWindow},
		{of(4, 4, 1), padded(kernel(7, 4, 1, 1), 1, 0, 1, 0), 0, 0, api.ErrWindow},
		{of(4, 4, 1), padded(kernel(7, 4, 1, 1), 1, 0, 2, 0), 1, 1, api.OK},
		{of(5, 4, 1), kernel(2, 2, 3, 2), 2, 2, api.OK}, // a step that just goes
		{of(4, 4, 1), kernel(2, 2, 3, 3), 1, 1, api.OK}, // and one that doesn't
		{of(1024, 16, 1), kernel(1, 1, 1, 1), 1024, 16, api.OK},
		{of(16, 1024, 1), padded(kernel(32, 32, 1, 1), 31, 31, 31, 31), 47, 1055, api.OK},
		{of(1, 1, 1024), padded(kernel(32, 32, 1, 1), 31, 31, 31, 31), 32, 32, api.OK},
		{of(1024, 1, 1), kernel(32, 1, 32, 32), 32, 1, api.OK},
	} {
		rows, columns, e := window.Out(r.s, r.w)
		if rows != r.rows || columns != r.columns || e != r.err {
			t.Errorf("Out(%v, %v) = %d, %d, %d", r.s, r.w, rows, columns, e)
		}
		if r.err != api.OK {
			refused(t, r.s, r.w, r.err)
		}
	}
}

// drawn holds all calls of a window over a plane against the drawing, at each
// of its positions, and beyond either end of them.
func drawn(t *testing.T, s api.Shape, w api.Window, d drawing) {
	t.Helper()
	if rows, columns, e := window.Out(s, w); rows != d.rows || columns != d.columns || e != api.OK {
		t.Fatalf("Out(%v, %v) = %d, %d, %d; want %d, %d", s, w, rows, columns, e, d.rows, d.columns)
	}
	if got := pairs(window.Positions(s, w)); !slices.Equal(got, d.positions) {
		t.Fatalf("Positions(%v, %v) = %v; want %v", s, w, got, d.positions)
	}
	for at, covered := range d.covered {
		outside := 0
		for _, p := range covered {
			if p == -1 {
				outside++
			}
		}
		next := 0
		for k, p := range window.Taps(s, w, at) {
			if k != next || k >= len(covered) || p != covered[k] {
				t.Fatalf("Taps(%v, %v, %d): tap %d gives %d, %d; want %v", s, w, at, next, k, p, covered)
			}
			next++
		}
		if next != len(covered) {
			t.Fatalf("Taps(%v, %v, %d) gives %d; want %d", s, w, at, next, len(covered))
		}
		if n, e := window.Padded(s, w, at); n != outside || e != api.OK || n >= len(covered) {
			t.Fatalf("Padded(%v, %v, %d) = %d, %d; want %d", s, w, at, n, e, outside)
		}
	}
	last := len(d.positions) - 1
	for _, at := range []int{math.MinInt, -last, -1, last + 1, last + 2, 1 << 32, math.MaxInt} {
		if at == 0 {
			continue
		}
		if got := pairs(window.Taps(s, w, at)); got != nil {
			t.Fatalf("Taps(%v, %v, %d) = %v", s, w, at, got)
		}
		if n, e := window.Padded(s, w, at); n != 0 || e != api.ErrPlace {
			t.Fatalf("Padded(%v, %v, %d) = %d, %d", s, w, at, n, e)
		}
	}
}

// P6.1, P6.2, P6.3, P6.5: every small window over small planes, fitting or not.
func TestAgainstTheDrawing(t *testing.T) {
	fit, unfit := 0, 0
	eachPlaced(func(s api.Shape, w api.Window) {
		d := draw(s, w)
		if len(d.positions) == 0 {
			unfit++
			refused(t, s, w, api.ErrWindow)
			return
		}
		fit++
		drawn(t, s, w, d)
	})
	if fit < 1000 || unfit < 1000 {
		t.Fatalf("%d fit and %d don't: too few to tell", fit, unfit)
	}
}

// P6.1, P6.2, P6.3, P6.5: windows and planes at the limits.
func TestGreatWindowsAgainstTheDrawing(t *testing.T) {
	for _, r := range great() {
		drawn(t, r.s, r.w, draw(r.s, r.w))
	}
}

// P6.1 to P6.5: a shape's channels play no part.
func TestChannelsPlayNoPart(t *testing.T) {
	w := padded(kernel(3, 2, 2, 1), 1, 1, 2, 0)
	d := draw(of(4, 4, 1), w)
	for _, c := range []int{1, 2, 5, 1024} {
		drawn(t, of(4, 4, c), w, d)
	}
}

// P6.3: windows that lie within the plane, and such that reach beyond one of
// its sides alone, beyond two, and beyond all four.
func TestTapsBeyondEachSide(t *testing.T) {
	s, w := of(3, 3, 1), padded(kernel(3, 3, 1, 1), 1, 1, 1, 1)
	for _, r := range []struct {
		s       api.Shape
		w       api.Window
		at      int
		covered []int
		outside int
	}{
		{s, w, 4, []int{0, 1, 2, 3, 4, 5, 6, 7, 8}, 0},
		{s, w, 1, []int{-1, -1, -1, 0, 1, 2, 3, 4, 5}, 3},
		{s, w, 3, []int{-1, 0, 1, -1, 3, 4, -1, 6, 7}, 3},
		{s, w, 5, []int{1, 2, -1, 4, 5, -1, 7, 8, -1}, 3},
		{s, w, 7, []int{3, 4, 5, 6, 7, 8, -1, -1, -1}, 3},
		{s, w, 0, []int{-1, -1, -1, -1, 0, 1, -1, 3, 4}, 5},
		{s, w, 8, []int{4, 5, -1, 7, 8, -1, -1, -1, -1}, 5},
		{of(1, 1, 1), w, 0, []int{-1, -1, -1, -1, 0, -1, -1, -1, -1}, 8},
	} {
		var covered []int
		for k, p := range window.Taps(r.s, r.w, r.at) {
			if k != len(covered) {
				t.Errorf("Taps(%v, %v, %d): tap %d is numbered %d", r.s, r.w, r.at, len(covered), k)
			}
			covered = append(covered, p)
		}
		if !slices.Equal(covered, r.covered) {
			t.Errorf("Taps(%v, %v, %d) covers %v; want %v", r.s, r.w, r.at, covered, r.covered)
		}
		if n, e := window.Padded(r.s, r.w, r.at); n != r.outside || e != api.OK {
			t.Errorf("Padded(%v, %v, %d) = %d, %d; want %d", r.s, r.w, r.at, n, e, r.outside)
		}
	}
}

// sequences are iterators of both kinds, with what each of them gives.
func sequences() []struct {
	seq  iter.Seq2[int, int]
	want []pair
} {
	s, w := of(4, 3, 1), padded(kernel(2, 2, 1, 1), 1, 1, 0, 0)
	d := draw(s, w)
	var taps []pair
	for k, p := range d.covered[1] {
		taps = append(taps, pair{k, p})
	}
	return []struct {
		seq  iter.Seq2[int, int]
		want []pair
	}{
		{window.Positions(s, w), d.positions},
		{window.Taps(s, w, 1), taps},
		{window.Positions(s, api.Window{}), nil},
		{window.Taps(s, w, -1), nil},
	}
}

// P6.4: never nil, whatever they are asked with.
func TestIteratorsAreNeverNil(t *testing.T) {
	for _, s := range []api.Shape{{}, of(2, 2, 1), of(math.MinInt, math.MaxInt, 1)} {
		for _, w := range []api.Window{{}, kernel(1, 1, 1, 1), kernel(3, 3, 1, 1), kernel(math.MaxInt, math.MinInt, 0, -1)} {
			if window.Positions(s, w) == nil {
				t.Errorf("Positions(%v, %v) is nil", s, w)
			}
			for _, at := range []int{math.MinInt, -1, 0, 4, math.MaxInt} {
				if window.Taps(s, w, at) == nil {
					t.Errorf("Taps(%v, %v, %d) is nil", s, w, at)
				}
			}
		}
	}
}

// P6.4: gone through again and again, also behind one that was ended early.
func TestIteratorsBeginAnew(t *testing.T) {
	for _, r := range sequences() {
		for range 3 {
			if got := pairs(r.seq); !slices.Equal(got, r.want) {
				t.Errorf("%v; want %v", got, r.want)
			}
			for range r.seq {
				break
			}
		}
	}
}

// P6.4: ended behind each of what it gives, it gives just that many, and
// nothing more is asked of it.
func TestIteratorsEndEarly(t *testing.T) {
	for _, r := range sequences() {
		for stop := range r.want {
			var got []pair
			r.seq(func(a, b int) bool {
				got = append(got, pair{a, b})
				return len(got) <= stop
			})
			if !slices.Equal(got, r.want[:stop+1]) {
				t.Errorf("ended behind %d: %v; want %v", stop+1, got, r.want[:stop+1])
			}
		}
	}
}

// P6.4: one going through within another, at each of its turns, and the inner
// one ended early too, doesn't move the outer one.
func TestIteratorsWithinOneAnother(t *testing.T) {
	for _, r := range sequences() {
		var outer []pair
		for a, b := range r.seq {
			outer = append(outer, pair{a, b})
			if inner := pairs(r.seq); !slices.Equal(inner, r.want) {
				t.Fatalf("within: %v; want %v", inner, r.want)
			}
			for range r.seq {
				break
			}
		}
		if !slices.Equal(outer, r.want) {
			t.Errorf("about it: %v; want %v", outer, r.want)
		}
	}
}

// P6.4: two that are gone through side by side, each a step at a time.
func TestIteratorsSideBySide(t *testing.T) {
	for _, r := range sequences() {
		ahead, stopAhead := iter.Pull2(r.seq)
		behind, stopBehind := iter.Pull2(r.seq)
		ahead()
		for _, want := range r.want {
			if a, b, ok := behind(); !ok || want != (pair{a, b}) {
				t.Errorf("%d, %d, %v; want %v", a, b, ok, want)
			}
			ahead()
		}
		if _, _, ok := behind(); ok {
			t.Errorf("more than %v", r.want)
		}
		stopAhead()
		stopBehind()
	}
}

// The chapter's examples.
func TestExamples(t *testing.T) {
	s := of(4, 4, 1)
	about := padded(kernel(3, 3, 1, 1), 1, 1, 1, 1)
	stepping := padded(kernel(3, 3, 2, 2), 1, 1, 1, 1)
	for _, r := range []struct {
		s             api.Shape
		w             api.Window
		rows, columns int
		err           api.Errno
	}{
		{s, kernel(3, 3, 1, 1), 2, 2, api.OK},
		{s, about, 4, 4, api.OK},
		{s, stepping, 2, 2, api.OK},
		{of(2, 2, 1), kernel(3, 1, 1, 1), 0, 0, api.ErrWindow},
		{of(2, 2, 1), padded(kernel(3, 1, 1, 1), 1, 0, 0, 0), 1, 2, api.OK},
	} {
		if rows, columns, e := window.Out(r.s, r.w); rows != r.rows || columns != r.columns || e != r.err {
			t.Errorf("Out(%v, %v) = %d, %d, %d", r.s, r.w, rows, columns, e)
		}
	}
	if window.Valid(padded(kernel(3, 3, 1, 1), 3, 0, 0, 0)) {
		t.Error("KH 3 and Top 3 is valid")
	}
	two, corner := of(2, 2, 1), padded(kernel(2, 2, 1, 1), 1, 1, 0, 0)
	for at, want := range map[int][]pair{0: {{0, -1}, {1, -1}, {2, -1}, {3, 0}}, 3: {{0, 0}, {1, 1}, {2, 2}, {3, 3}}, 4: nil} {
		if got := pairs(window.Taps(two, corner, at)); !slices.Equal(got, want) {
			t.Errorf("taps at %d: %v", at, got)
		}
	}
	if n, e := window.Padded(two, corner, 0); n != 3 || e != api.OK {
		t.Errorf("Padded at 0: %d, %d", n, e)
	}
	if n, e := window.Padded(two, corner, 4); n != 0 || e != api.ErrPlace {
		t.Errorf("Padded at 4: %d, %d", n, e)
	}
	want := []pair{{0, 0}, {0, 1}, {1, 0}, {1, 1}}
	if got := pairs(window.Positions(of(3, 2, 5), kernel(2, 1, 1, 1))); !slices.Equal(got, want) {
		t.Errorf("positions: %v", got)
	}
}

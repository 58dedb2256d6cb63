package model_test

import (
	"fmt"
	"math"
	"slices"
	"strings"
	"testing"

	"spillway/api"
	"spillway/model"
)

func of(h, w, c int) api.Shape { return api.Shape{H: h, W: w, C: c} }

// kernel is a window of that size and steps without padding.
func kernel(kh, kw, sh, sw int) api.Window {
	return api.Window{KH: kh, KW: kw, SH: sh, SW: sw}
}

func padded(w api.Window, top, left, bottom, right int) api.Window {
	w.Top, w.Left, w.Bottom, w.Right = top, left, bottom, right
	return w
}

func one() api.Scale { return api.Scale{Mult: 1} }

// The ops: each with lists as long as the chapter asks for, of the shape a.

func dense(a api.Shape, m int) api.Op {
	return api.Op{Kind: api.Dense, M: m, Weights: make([]int16, m*a.H*a.W*a.C), Bias: make([]int32, m), SA: one(), Lo: -128, Hi: 127}
}

func conv(a api.Shape, m int, w api.Window) api.Op {
	return api.Op{Kind: api.Conv, M: m, Win: w, Weights: make([]int16, m*w.KH*w.KW*a.C), Bias: make([]int32, m), SA: one(), Lo: -128, Hi: 127}
}

func depthwise(a api.Shape, w api.Window) api.Op {
	return api.Op{Kind: api.Depthwise, Win: w, Weights: make([]int16, w.KH*w.KW*a.C), Bias: make([]int32, a.C), SA: one(), Lo: -128, Hi: 127}
}

func average(w api.Window) api.Op { return api.Op{Kind: api.Average, Win: w, Lo: -128, Hi: 127} }

func greatest(w api.Window) api.Op { return api.Op{Kind: api.Max, Win: w, Lo: -128, Hi: 127} }

func add(a, b int) api.Op {
	return api.Op{Kind: api.Add, A: a, B: b, SA: one(), SB: one(), Lo: -128, Hi: 127}
}

func rescale() api.Op { return api.Op{Kind: api.Rescale, SA: one(), Lo: -128, Hi: 127} }

func clamp() api.Op { return api.Op{Kind: api.Clamp, Lo: -128, Hi: 127} }

// reading is the op with another tensor A.
func reading(a int, op api.Op) api.Op {
	op.A = a
	return op
}

// chain is a model of these ops; its output is the last one's.
func chain(in api.Shape, ops ...api.Op) api.Model {
	return api.Model{In: in, Lo: -128, Hi: 127, Ops: ops, Out: len(ops)}
}

// eachKind is a well-formed op of each kind that reads a tensor {4, 6, 3}.
func eachKind() []api.Op {
	a := of(4, 6, 3)
	w := kernel(2, 3, 2, 1)
	p := padded(w, 1, 2, 1, 0)
	return []api.Op{dense(a, 5), conv(a, 5, p), depthwise(a, p), average(w), greatest(w), add(0, 0), rescale(), clamp()}
}

// alone is the model of one op that reads a tensor {4, 6, 3}.
func alone(op api.Op) api.Model { return chain(of(4, 6, 3), op) }

func none(err api.Errno, op int) verdict {
	return verdict{fault: api.Fault{Err: err, Op: op}}
}

// expect asks all three calls for the model, and each of them for all of it.
func expect(t *testing.T, what string, m api.Model, want verdict) {
	t.Helper()
	if got := model.Check(m); got != want.fault {
		t.Errorf("%s: Check: %v, wanted %v", what, got, want.fault)
	}
	shapes, fault := model.Shapes(m)
	if fault != want.fault || !slices.Equal(shapes, want.shapes) {
		t.Errorf("%s: Shapes: %v %v, wanted %v %v", what, shapes, fault, want.shapes, want.fault)
	}
	work, fault := model.Work(m)
	if fault != want.fault || work != want.work {
		t.Errorf("%s: Work: %d %v, wanted %d %v", what, work, fault, want.work, want.fault)
	}
}

func expectFault(t *testing.T, what string, m api.Model, err api.Errno, op int) {
	t.Helper()
	expect(t, what, m, none(err, op))
}

func expectGood(t *testing.T, what string, m api.Model) {
	t.Helper()
	if f := model.Check(m); f != (api.Fault{}) {
		t.Errorf("%s: %v, wanted none", what, f)
	}
	expect(t, what, m, judge(m))
}

// P8.3: the first four kinds reduce, and nothing else.
func TestReduces(t *testing.T) {
	for kind := -300; kind <= 300; kind++ {
		if got, want := model.Reduces(kind), kind >= 1 && kind <= 4; got != want {
			t.Errorf("Reduces(%d): %v", kind, got)
		}
	}
	for _, kind := range []int{math.MinInt, math.MaxInt, 1 << 32, 1<<32 + 1, 1<<8 + 2, math.MinInt + 1} {
		if model.Reduces(kind) {
			t.Errorf("Reduces(%d)", kind)
		}
	}
}

// P8.1, P8.2: the chapter's examples 1 and 2.
func TestExampleDense(t *testing.T) {
	two := of(1, 1, 2)
	made := func() api.Model {
		m := chain(two, dense(two, 1))
		m.Ops[0].Weights = []int16{3, -2}
		m.Ops[0].Bias = []int32{1}
		return m
	}
	expect(t, "example 1", made(), verdict{shapes: []api.Shape{two, of(1, 1, 1)}, work: 2})
	for _, r := range []struct {
		what string
		turn func(m *api.Model)
		err  api.Errno
		op   int
	}{
		{"one weight", func(m *api.Model) { m.Ops[0].Weights = []int16{3} }, api.ErrLens, 1},
		{"A 1", func(m *api.Model) { m.Ops[0].A = 1 }, api.ErrEdge, 1},
		{"Pad 1", func(m *api.Model) { m.Ops[0].Pad = 1 }, api.ErrField, 1},
		{"B 1", func(m *api.Model) { m.Ops[0].B = 1 }, api.ErrField, 1},
		{"Kind 9", func(m *api.Model) { m.Ops[0].Kind = 9 }, api.ErrKind, 1},
		{"M 2", func(m *api.Model) { m.Ops[0].M = 2 }, api.ErrLens, 1},
		{"M 0", func(m *api.Model) { m.Ops[0].M = 0 }, api.ErrArg, 1},
		{"Out 2", func(m *api.Model) { m.Out = 2 }, api.ErrPlace, 0},
		{"SA {0, 0}", func(m *api.Model) { m.Ops[0].SA = api.Scale{} }, api.ErrScale, 1},
	} {
		m := made()
		r.turn(&m)
		expectFault(t, r.what, m, r.err, r.op)
	}
}

// P8.1, P8.2: the chapter's examples 3 and 4.
func TestExampleConv(t *testing.T) {
	in := of(4, 4, 3)
	m := chain(in, conv(in, 2, padded(kernel(3, 3, 1, 1), 1, 1, 1, 1)))
	expect(t, "example 3, a Conv", m, verdict{shapes: []api.Shape{in, of(4, 4, 2)}, work: 864})
	m.Ops = append(m.Ops, reading(1, greatest(kernel(2, 2, 2, 2))))
	expect(t, "example 3, a Max", m, verdict{shapes: []api.Shape{in, of(4, 4, 2), of(2, 2, 2)}, work: 864 + 32})
	expect(t, "example 4", chain(in), verdict{shapes: []api.Shape{in}})
}

// P8.2: the shape that each kind makes, and its work.
func TestEachKind(t *testing.T) {
	in := of(4, 6, 3)
	for i, want := range []struct {
		made api.Shape
		work int
	}{
		{of(1, 1, 5), 5 * 72},
		{of(3, 6, 5), 18 * 5 * 18},
		{of(3, 6, 3), 18 * 3 * 6},
		{of(2, 4, 3), 8 * 3 * 6},
		{of(2, 4, 3), 24 * 6},
		{in, 72},
		{in, 72},
		{in, 72},
	} {
		op := eachKind()[i]
		expect(t, fmt.Sprint("kind ", op.Kind), alone(op), verdict{shapes: []api.Shape{in, want.made}, work: want.work})
	}
}

// P8.2: tensors are numbered from the input on, whichever an op reads, and the
// work is that of all ops, the output's or not.
func TestSeveralOps(t *testing.T) {
	in := of(6, 5, 2)
	w := kernel(3, 2, 1, 1)
	m := chain(in,
		conv(in, 4, w),                          // 1: {4, 4, 4}
		clamp(),                                 // 2: {6, 5, 2}
		reading(1, average(kernel(2, 2, 2, 2))), // 3: {2, 2, 4}
		add(2, 0),                               // 4: {6, 5, 2}
		reading(3, dense(of(2, 2, 4), 3)),       // 5: {1, 1, 3}
		reading(4, depthwise(in, padded(w, 2, 1, 2, 1))), // 6: {8, 6, 2}
		reading(6, greatest(kernel(8, 6, 1, 1))),         // 7: {1, 1, 2}
		reading(5, rescale()),                            // 8: {1, 1, 3}
		add(5, 8),                                        // 9: {1, 1, 3}
	)
	want := verdict{
		shapes: []api.Shape{in, of(4, 4, 4), in, of(2, 2, 4), in, of(1, 1, 3), of(8, 6, 2), of(1, 1, 2), of(1, 1, 3), of(1, 1, 3)},
		work:   16*4*12 + 60 + 4*4*4 + 60 + 3*16 + 48*2*6 + 2*48 + 3 + 3,
	}
	for out := range len(m.Ops) + 1 {
		m.Out = out
		expect(t, fmt.Sprint("out ", out), m, want)
	}
}

// P8.1, fault 1: the input's shape; P1: numbers that come round.
func TestInputShape(t *testing.T) {
	sides := []int{math.MinInt, -1, 0, 1, 2, 16, 17, 128, 1024, 1025, 1 << 21, 1 << 32, 1 << 62, math.MaxInt}
	for _, h := range sides {
		for _, w := range sides {
			for _, c := range sides {
				m := chain(of(h, w, c))
				expect(t, fmt.Sprint(m.In), m, judge(m))
			}
		}
	}
	expectFault(t, "no height", chain(of(0, 1, 1)), api.ErrShape, 0)
	expectFault(t, "16385", chain(of(5, 29, 113)), api.ErrShape, 0)
	expectGood(t, "16384", chain(of(16, 32, 32)))
}

// ends are numbers at both ends of a value, and far beyond.
func ends() []int {
	return []int{math.MinInt, -256, -129, -128, -127, -1, 0, 1, 126, 127, 128, 255, math.MaxInt}
}

// P8.1, faults 2 and 14: Lo and Hi, of the model and of each kind of op.
func TestRanges(t *testing.T) {
	for _, lo := range ends() {
		for _, hi := range ends() {
			good := -128 <= lo && lo <= hi && hi <= 127
			what := fmt.Sprintf("%d to %d", lo, hi)
			m := chain(of(1, 2, 3), clamp())
			m.Lo, m.Hi = lo, hi
			if good {
				expectGood(t, what, m)
			} else {
				expectFault(t, what, m, api.ErrRange, 0)
			}
			for _, op := range eachKind() {
				op.Lo, op.Hi = lo, hi
				if good {
					expectGood(t, what, alone(op))
				} else {
					expectFault(t, what, alone(op), api.ErrRange, 1)
				}
			}
		}
	}
}

// P8.1, fault 14: Zero and Pad, of the kinds that use them, each by itself and
// both at once.
func TestZeroAndPad(t *testing.T) {
	for _, op := range eachKind() {
		for _, zero := range ends() {
			for _, pad := range ends() {
				if !strings.Contains(words[op.Kind], " Zero ") && zero != 0 || !strings.Contains(words[op.Kind], " Pad ") && pad != 0 {
					continue
				}
				op.Zero, op.Pad = zero, pad
				what := fmt.Sprintf("kind %d, Zero %d, Pad %d", op.Kind, zero, pad)
				if within(zero, -128, 127) && within(pad, -128, 127) {
					expectGood(t, what, alone(op))
				} else {
					expectFault(t, what, alone(op), api.ErrRange, 1)
				}
			}
		}
	}
}

// P8.1, fault 3: 64 ops and one more.
func TestMany(t *testing.T) {
	m := chain(of(1, 1, 1))
	for range 64 {
		m.Ops = append(m.Ops, reading(len(m.Ops), clamp()))
		expectGood(t, fmt.Sprint(len(m.Ops), " ops"), m)
	}
	m.Out = 64
	expectGood(t, "64 ops, the last one's", m)
	m.Ops = append(m.Ops, clamp())
	expectFault(t, "65 ops", m, api.ErrMany, 0)
	m.Ops = make([]api.Op, 1000000)
	expectFault(t, "1000000 ops", m, api.ErrMany, 0)
}

// P8.1, fault 4: Out.
func TestOut(t *testing.T) {
	for ops := range 5 {
		m := chain(of(1, 1, 1))
		for range ops {
			m.Ops = append(m.Ops, clamp())
		}
		for _, out := range []int{math.MinInt, -2, -1, 0, 1, 2, 3, 4, 5, 6, 64, 1 << 32, math.MaxInt} {
			m.Out = out
			what := fmt.Sprintf("%d ops, Out %d", ops, out)
			if out >= 0 && out <= ops {
				expectGood(t, what, m)
			} else {
				expectFault(t, what, m, api.ErrPlace, 0)
			}
		}
	}
}

// P8.1, fault 5: Kind.
func TestKind(t *testing.T) {
	for _, kind := range []int{math.MinInt, -255, -8, -1, 0, 9, 10, 257, 1<<32 + 1, math.MaxInt} {
		for _, op := range eachKind() {
			op.Kind = kind
			expectFault(t, fmt.Sprint("kind ", kind), alone(op), api.ErrKind, 1)
		}
		expectFault(t, fmt.Sprint("kind ", kind), alone(api.Op{Kind: kind}), api.ErrKind, 1)
	}
	for kind := 1; kind <= 8; kind++ {
		op := eachKind()[kind-1]
		if op.Kind != kind {
			t.Fatal("eachKind")
		}
		expectGood(t, fmt.Sprint("kind ", kind), alone(op))
	}
}

// P8.1, fault 6: A, of each kind, as the first op, the second and the fourth.
func TestEdgeA(t *testing.T) {
	for _, n := range []int{1, 2, 4} {
		for _, a := range []int{math.MinInt, -1, 0, n - 1, n, n + 1, 64, 1 << 32, math.MaxInt} {
			for _, op := range eachKind() {
				m := chain(of(4, 6, 3))
				for range n - 1 {
					m.Ops = append(m.Ops, clamp())
				}
				m.Ops = append(m.Ops, reading(a, op), clamp(), clamp())
				what := fmt.Sprintf("kind %d as op %d, A %d", op.Kind, n, a)
				if a >= 0 && a < n {
					expectGood(t, what, m)
				} else {
					expectFault(t, what, m, api.ErrEdge, n)
				}
			}
		}
	}
}

// P8.1, fault 6: B, of an Add.
func TestEdgeB(t *testing.T) {
	for _, n := range []int{1, 2, 4} {
		for _, b := range []int{math.MinInt, -1, 0, n - 1, n, n + 1, 64, 1 << 32, math.MaxInt} {
			m := chain(of(4, 6, 3))
			for range n - 1 {
				m.Ops = append(m.Ops, clamp())
			}
			m.Ops = append(m.Ops, add(0, b), clamp())
			what := fmt.Sprintf("Add as op %d, B %d", n, b)
			if b >= 0 && b < n {
				expectGood(t, what, m)
			} else {
				expectFault(t, what, m, api.ErrEdge, n)
			}
		}
	}
}

// field is one of an op's fields: its name, the word for it in the table, and
// how it is set to something. (Of a list, x only says how long it is.)
type field struct {
	name, word string
	set        func(op *api.Op, x int)
}

func fieldsOfAnOp() []field {
	return []field{
		{"B", "B", func(op *api.Op, x int) { op.B = x }},
		{"M", "M", func(op *api.Op, x int) { op.M = x }},
		{"KH", "Win", func(op *api.Op, x int) { op.Win.KH = x }},
		{"KW", "Win", func(op *api.Op, x int) { op.Win.KW = x }},
		{"SH", "Win", func(op *api.Op, x int) { op.Win.SH = x }},
		{"SW", "Win", func(op *api.Op, x int) { op.Win.SW = x }},
		{"Top", "Padding", func(op *api.Op, x int) { op.Win.Top = x }},
		{"Left", "Padding", func(op *api.Op, x int) { op.Win.Left = x }},
		{"Bottom", "Padding", func(op *api.Op, x int) { op.Win.Bottom = x }},
		{"Right", "Padding", func(op *api.Op, x int) { op.Win.Right = x }},
		{"Weights", "Weights", func(op *api.Op, x int) { op.Weights = make([]int16, 1+uint(x)%3) }},
		{"Bias", "Bias", func(op *api.Op, x int) { op.Bias = make([]int32, 1+uint(x)%3) }},
		{"SA.Mult", "SA", func(op *api.Op, x int) { op.SA.Mult = x }},
		{"SA.Shift", "SA", func(op *api.Op, x int) { op.SA.Shift = x }},
		{"SB.Mult", "SB", func(op *api.Op, x int) { op.SB.Mult = x }},
		{"SB.Shift", "SB", func(op *api.Op, x int) { op.SB.Shift = x }},
		{"Zero", "Zero", func(op *api.Op, x int) { op.Zero = x }},
		{"Pad", "Pad", func(op *api.Op, x int) { op.Pad = x }},
	}
}

// fieldsBeside lists the fields that the op has and its kind doesn't use.
func fieldsBeside(op api.Op) []string {
	var all []string
	for _, f := range []struct {
		word string
		has  int
	}{
		{"B", op.B}, {"M", op.M}, {"Win", op.Win.KH}, {"Win", op.Win.KW}, {"Win", op.Win.SH}, {"Win", op.Win.SW},
		{"Padding", op.Win.Top}, {"Padding", op.Win.Left}, {"Padding", op.Win.Bottom}, {"Padding", op.Win.Right},
		{"Weights", len(op.Weights)}, {"Bias", len(op.Bias)}, {"SA", op.SA.Mult}, {"SA", op.SA.Shift},
		{"SB", op.SB.Mult}, {"SB", op.SB.Shift}, {"Zero", op.Zero}, {"Pad", op.Pad},
	} {
		if f.has != 0 && !strings.Contains(words[op.Kind], " "+f.word+" ") {
			all = append(all, f.word)
		}
	}
	return all
}

// P8.1, fault 7: each field that a kind doesn't use, set to something, for each
// kind; and each field that it does use is asked for something else.
func TestFields(t *testing.T) {
	set := 0
	for i := range eachKind() {
		for _, f := range fieldsOfAnOp() {
			for _, x := range []int{1, -1, 2, 127, -128, 1 << 31, 1 << 32, math.MaxInt, math.MinInt} {
				op := eachKind()[i]
				f.set(&op, x)
				what := fmt.Sprintf("kind %d, %s %d", op.Kind, f.name, x)
				if !strings.Contains(words[op.Kind], " "+f.word+" ") {
					expectFault(t, what, alone(op), api.ErrField, 1)
					set++
					continue
				}
				m := alone(op)
				if model.Check(m).Err == api.ErrField {
					t.Errorf("%s: ErrField", what)
				}
				expect(t, what, m, judge(m))
			}
		}
	}
	if set != 9*(8*18-(6+15+14+4+4+6+3+0)) {
		t.Errorf("%d fields that a kind doesn't use", set)
	}
}

// Rule 6: of lists that a kind doesn't use, and of ops, nil and empty are one.
func TestNilAndEmpty(t *testing.T) {
	for _, op := range eachKind() {
		if strings.Contains(words[op.Kind], " Weights ") {
			op.Weights = []int16{}
			expectFault(t, "no weights", alone(op), api.ErrLens, 1)
			op.Weights = nil
			expectFault(t, "nil weights", alone(op), api.ErrLens, 1)
			continue
		}
		expectGood(t, "nil lists", alone(op))
		op.Weights, op.Bias = []int16{}, make([]int32, 0, 4)
		expectGood(t, "empty lists", alone(op))
	}
	m := chain(of(1, 1, 1))
	for _, ops := range [][]api.Op{nil, {}, make([]api.Op, 0, 3)} {
		m.Ops = ops
		expectGood(t, "no ops", m)
		m.Out = 1
		expectFault(t, "no ops, Out 1", m, api.ErrPlace, 0)
		m.Out = 0
	}
	expectFault(t, "the model of all zeros", api.Model{}, api.ErrShape, 0)
	expectFault(t, "the op of all zeros", alone(api.Op{}), api.ErrKind, 1)
	expectGood(t, "the Clamp of all zeros", alone(api.Op{Kind: api.Clamp}))
}

// P8.1, fault 8: M.
func TestM(t *testing.T) {
	a := of(1, 1, 2)
	for _, m := range []int{1, 2, 1023, 1024} {
		expectGood(t, fmt.Sprint("Dense, M ", m), chain(a, dense(a, m)))
		expectGood(t, fmt.Sprint("Conv, M ", m), chain(a, conv(a, m, kernel(1, 1, 1, 1))))
	}
	for _, m := range []int{0, 1025, 2048} {
		expectFault(t, fmt.Sprint("Dense, M ", m), chain(a, dense(a, m)), api.ErrArg, 1)
		expectFault(t, fmt.Sprint("Conv, M ", m), chain(a, conv(a, m, kernel(1, 1, 1, 1))), api.ErrArg, 1)
	}
	for _, m := range []int{math.MinInt, -1024, -1, 1 << 32, 1<<32 + 1, 1 << 62, math.MaxInt} {
		d, c := dense(a, 1), conv(a, 1, kernel(1, 1, 1, 1))
		d.M, c.M = m, m
		expectFault(t, fmt.Sprint("Dense, M ", m), chain(a, d), api.ErrArg, 1)
		expectFault(t, fmt.Sprint("Conv, M ", m), chain(a, c), api.ErrArg, 1)
	}
}

// windowed is an op of each kind that has a window, over the shape a.
func windowed(a api.Shape, w api.Window) []api.Op {
	return []api.Op{conv(a, 1, w), depthwise(a, w), average(w), greatest(w)}
}

// P8.1, fault 9: windows that just fit, with the padding counted, and windows
// that just don't.
func TestWindowFits(t *testing.T) {
	a := of(4, 3, 1)
	for i := range windowed(a, kernel(1, 1, 1, 1)) {
		expectGood(t, "all of the plane", chain(a, windowed(a, kernel(4, 3, 1, 1))[i]))
		expectGood(t, "with any steps", chain(a, windowed(a, kernel(4, 3, 32, 32))[i]))
		expectFault(t, "a row too long", chain(a, windowed(a, kernel(5, 3, 1, 1))[i]), api.ErrWindow, 1)
		expectFault(t, "a column too long", chain(a, windowed(a, kernel(4, 4, 1, 1))[i]), api.ErrWindow, 1)
	}
	for i := range 2 {
		full := padded(kernel(9, 8, 1, 1), 3, 4, 2, 1)
		expectGood(t, "all of the plane and its padding", chain(a, windowed(a, full)[i]))
		for _, less := range []api.Window{
			padded(kernel(9, 8, 1, 1), 2, 4, 2, 1), padded(kernel(9, 8, 1, 1), 3, 3, 2, 1),
			padded(kernel(9, 8, 1, 1), 3, 4, 1, 1), padded(kernel(9, 8, 1, 1), 3, 4, 2, 0),
		} {
			expectFault(t, "less padding", chain(a, windowed(a, less)[i]), api.ErrWindow, 1)
		}
	}
}

// P8.1, fault 9: windows that aren't valid, each number by itself; P1: at the
// ends of 64 bits.
func TestWindowValid(t *testing.T) {
	a := of(64, 64, 1)
	ways := []func(w *api.Window) *int{
		func(w *api.Window) *int { return &w.KH }, func(w *api.Window) *int { return &w.KW },
		func(w *api.Window) *int { return &w.SH }, func(w *api.Window) *int { return &w.SW },
		func(w *api.Window) *int { return &w.Top }, func(w *api.Window) *int { return &w.Left },
		func(w *api.Window) *int { return &w.Bottom }, func(w *api.Window) *int { return &w.Right },
	}
	for n, way := range ways {
		for _, x := range []int{math.MinInt, -33, -1, 0, 1, 2, 3, 15, 32, 33, 64, 1 << 32, 1<<32 + 3, 1 << 62, math.MaxInt} {
			// The work of a Conv over so many positions is small enough, as
			// long as its steps are.
			for i, op := range windowed(a, kernel(3, 3, 4, 4)) {
				*way(&op.Win) = x
				if within(i, 0, 1) && within(x, 1, 32) && n < 2 {
					op.Weights = make([]int16, 3*x)
				}
				m := chain(a, op)
				expect(t, fmt.Sprintf("kind %d, number %d of the window %d", op.Kind, n, x), m, judge(m))
				good := n < 4 && within(x, 1, 32) || n >= 4 && (x == 0 || i < 2 && within(x, 0, 2))
				if got := model.Check(m).Err; good != (got == api.OK) {
					t.Errorf("kind %d, number %d of the window %d: %v", op.Kind, n, x, got)
				}
			}
		}
	}
}

// P8.1, fault 10: what an op makes has too long a side, or too many numbers,
// and just not.
func TestMadeShape(t *testing.T) {
	tall, broad := of(1024, 1, 1), of(1, 1024, 1)
	for i := range 2 {
		expectGood(t, "1024 rows", chain(tall, windowed(tall, padded(kernel(2, 1, 1, 1), 1, 0, 0, 0))[i]))
		expectFault(t, "1025 rows", chain(tall, windowed(tall, padded(kernel(2, 1, 1, 1), 1, 0, 1, 0))[i]), api.ErrShape, 1)
		expectGood(t, "1024 columns", chain(broad, windowed(broad, padded(kernel(1, 2, 1, 1), 0, 0, 0, 1))[i]))
		expectFault(t, "1025 columns", chain(broad, windowed(broad, padded(kernel(1, 2, 1, 1), 0, 1, 0, 1))[i]), api.ErrShape, 1)
	}
	a := of(4, 4, 1)
	expectGood(t, "a Conv of 16384 numbers", chain(a, conv(a, 1024, kernel(1, 1, 1, 1))))
	b := of(5, 13, 1)
	expectGood(t, "a Conv of 16380 numbers", chain(b, conv(b, 252, kernel(1, 1, 1, 1))))
	expectFault(t, "a Conv of 16445 numbers", chain(b, conv(b, 253, kernel(1, 1, 1, 1))), api.ErrShape, 1)
	c := of(127, 128, 1)
	w := kernel(2, 1, 1, 1)
	expectGood(t, "a Depthwise of 16384 numbers", chain(c, depthwise(c, padded(w, 1, 0, 1, 0))))
	expectFault(t, "a Depthwise of 16512 numbers", chain(of(128, 128, 1), depthwise(c, padded(w, 1, 0, 1, 0))), api.ErrShape, 1)
	d := of(4, 4, 1024)
	expectFault(t, "a Depthwise of 36864 numbers", chain(d, depthwise(d, padded(kernel(3, 3, 1, 1), 2, 2, 2, 2))), api.ErrShape, 1)
}

// P8.1, fault 10: an Add of one shape and of two that differ by a side, or have
// the same sides elsewhere.
func TestAddShapes(t *testing.T) {
	in := of(4, 4, 4)
	w := kernel(3, 1, 1, 1)
	m := chain(in,
		average(w),                      // 1: {2, 4, 4}
		average(kernel(1, 3, 1, 1)),     // 2: {4, 2, 4}
		conv(in, 2, kernel(1, 1, 1, 1)), // 3: {4, 4, 2}
		clamp(),                         // 4: {4, 4, 4}
		dense(in, 64),                   // 5: {1, 1, 64}
		greatest(w),                     // 6: {2, 4, 4}
	)
	shapes := []api.Shape{in, of(2, 4, 4), of(4, 2, 4), of(4, 4, 2), in, of(1, 1, 64), of(2, 4, 4)}
	for a, left := range shapes {
		for b, right := range shapes {
			sum := m
			sum.Ops = append(slices.Clone(m.Ops), add(a, b), clamp())
			what := fmt.Sprintf("%v and %v", left, right)
			if left == right {
				expectGood(t, what, sum)
				made, _ := model.Shapes(sum)
				if made[7] != left {
					t.Errorf("%s: %v", what, made[7])
				}
			} else {
				expectFault(t, what, sum, api.ErrShape, 7)
			}
		}
	}
}

// P8.1, fault 11: lengths of 512 and 513, and far beyond.
func TestLength(t *testing.T) {
	for _, a := range []api.Shape{of(1, 1, 512), of(512, 1, 1), of(1, 512, 1), of(8, 8, 8), of(2, 16, 16)} {
		expectGood(t, "Dense, 512", chain(a, dense(a, 2)))
	}
	for _, a := range []api.Shape{of(1, 1, 513), of(513, 1, 1), of(1, 513, 1), of(3, 19, 9), of(1, 1, 1024), of(128, 128, 1)} {
		expectFault(t, "Dense, 513 or more", chain(a, dense(a, 1)), api.ErrReduce, 1)
	}
	big := of(32, 32, 1)
	for i, op := range windowed(big, kernel(16, 32, 1, 1)) {
		expectGood(t, fmt.Sprint("512, ", i), chain(big, op))
	}
	for i, op := range windowed(big, kernel(19, 27, 1, 1))[:3] {
		expectFault(t, fmt.Sprint("513, ", i), chain(big, op), api.ErrReduce, 1)
	}
	for i, op := range windowed(big, kernel(32, 32, 1, 1))[:3] {
		expectFault(t, fmt.Sprint("1024, ", i), chain(big, op), api.ErrReduce, 1)
	}
	deep, deeper := of(2, 2, 128), of(3, 3, 57)
	expectGood(t, "Conv, 2 * 2 * 128", chain(deep, conv(deep, 2, kernel(2, 2, 1, 1))))
	expectFault(t, "Conv, 3 * 3 * 57", chain(deeper, conv(deeper, 2, kernel(3, 3, 1, 1))), api.ErrReduce, 1)
	expectGood(t, "Depthwise, 3 * 3 of 57 channels", chain(deeper, depthwise(deeper, kernel(3, 3, 1, 1))))
	expectGood(t, "Average, 3 * 3 of 57 channels", chain(deeper, average(kernel(3, 3, 1, 1))))
	expect(t, "a Max doesn't reduce", chain(big, greatest(kernel(32, 32, 1, 1))), verdict{shapes: []api.Shape{big, of(1, 1, 1)}, work: 1024})
	expectGood(t, "nor does a Clamp", chain(of(128, 128, 1), clamp()))
}

// P8.1, fault 12: one weight or bias too few, one too many, none, and the right
// number of both together.
func TestLens(t *testing.T) {
	for i := range 3 {
		base := eachKind()[i]
		weights, bias := len(base.Weights), len(base.Bias)
		if want := [][2]int{{5 * 72, 5}, {5 * 18, 5}, {3 * 6, 3}}[i]; want != [2]int{weights, bias} {
			t.Fatalf("kind %d: %d weights, %d bias", base.Kind, weights, bias)
		}
		for _, r := range [][2]int{
			{weights - 1, bias}, {weights + 1, bias}, {weights, bias - 1}, {weights, bias + 1}, {0, bias}, {weights, 0}, {0, 0},
			{weights - 1, bias + 1}, {weights + 1, bias - 1}, {bias, weights}, {2 * weights, 2 * bias}, {weights, weights}, {bias, bias},
		} {
			op := base
			op.Weights, op.Bias = make([]int16, r[0]), make([]int32, r[1])
			expectFault(t, fmt.Sprintf("kind %d, %d weights, %d bias", op.Kind, r[0], r[1]), alone(op), api.ErrLens, 1)
		}
		expectGood(t, fmt.Sprint("kind ", base.Kind), alone(base))
	}
}

// Lists may hold any numbers, and have room to spare.
func TestListsHoldAnything(t *testing.T) {
	for i := range 3 {
		op := eachKind()[i]
		for k := range op.Weights {
			op.Weights[k] = []int16{math.MinInt16, -1, 0, math.MaxInt16}[k%4]
		}
		for k := range op.Bias {
			op.Bias[k] = []int32{math.MinInt32, math.MaxInt32, 0}[k%3]
		}
		op.Weights = append(make([]int16, 0, 1000), op.Weights...)
		expectGood(t, fmt.Sprint("kind ", op.Kind), alone(op))
	}
}

// P8.1, fault 13: scales, of the kinds that use them, SA and SB each by itself
// and both at once.
func TestScales(t *testing.T) {
	var scales []api.Scale
	for _, mult := range []int{math.MinInt, -1, 0, 1, 2, 1<<31 - 1, 1 << 31, 1<<32 + 1, math.MaxInt} {
		for _, shift := range []int{math.MinInt, -1, 0, 1, 62, 63, 64, 1 << 32, math.MaxInt} {
			scales = append(scales, api.Scale{Mult: mult, Shift: shift})
		}
	}
	for _, op := range eachKind() {
		for _, sa := range scales {
			for _, sb := range scales {
				if !strings.Contains(words[op.Kind], " SA ") {
					continue
				}
				if !strings.Contains(words[op.Kind], " SB ") {
					sb = api.Scale{}
				}
				op.SA, op.SB = sa, sb
				what := fmt.Sprintf("kind %d, SA %v, SB %v", op.Kind, sa, sb)
				if scaleStands(sa) && (op.Kind != api.Add || scaleStands(sb)) {
					expectGood(t, what, alone(op))
				} else {
					expectFault(t, what, alone(op), api.ErrScale, 1)
				}
			}
		}
	}
}

// P8.1, fault 15, and P8.2: a work of 131072, of each kind that can come to it,
// and one beyond.
func TestWork(t *testing.T) {
	a := of(1, 1, 512)
	m := chain(a, dense(a, 255), dense(a, 1))
	expect(t, "131072 by two", m, verdict{shapes: []api.Shape{a, of(1, 1, 255), of(1, 1, 1)}, work: 131072})
	m.Ops = append(m.Ops, reading(2, clamp()))
	expectFault(t, "131073 by three", m, api.ErrWork, 3)
	m.Ops[2] = clamp()
	expectFault(t, "131584 by three", m, api.ErrWork, 3)
	expect(t, "131072 by a Dense", chain(a, dense(a, 256)), verdict{shapes: []api.Shape{a, of(1, 1, 256)}, work: 131072})
	expectFault(t, "a channel more", chain(a, dense(a, 257)), api.ErrWork, 1)
	b := of(16, 16, 64)
	c := conv(b, 8, kernel(1, 1, 1, 1))
	expect(t, "131072 by a Conv", chain(b, c), verdict{shapes: []api.Shape{b, of(16, 16, 8)}, work: 131072})
	expectFault(t, "a channel more", chain(b, conv(b, 9, kernel(1, 1, 1, 1))), api.ErrWork, 1)
	d := of(128, 128, 1)
	eight := padded(kernel(2, 4, 1, 1), 1, 1, 0, 2)
	expect(t, "131072 by a Depthwise", chain(d, depthwise(d, eight)), verdict{shapes: []api.Shape{d, d}, work: 131072})
	expectFault(t, "nine taps", chain(d, depthwise(d, padded(kernel(3, 3, 1, 1), 1, 1, 1, 1))), api.ErrWork, 1)
	long := of(128, 127, 1)
	far := kernel(32, 32, 32, 3)
	expect(t, "131072 by a Max", chain(long, greatest(far)), verdict{shapes: []api.Shape{long, of(4, 32, 1)}, work: 131072})
	expectFault(t, "a column more", chain(d, greatest(far)), api.ErrWork, 1)
	half := kernel(16, 32, 16, 3)
	expectGood(t, "131072 by an Average", chain(long, average(half)))
	expectFault(t, "a column more", chain(d, average(half)), api.ErrWork, 1)
}

// P8.1, fault 15: numbers that are made are work, of an Add, Rescale and Clamp.
func TestWorkOfNumbers(t *testing.T) {
	in := of(128, 128, 1)
	for _, op := range []api.Op{add(0, 0), rescale(), clamp()} {
		m := chain(in)
		for n := 1; n <= 8; n++ {
			m.Ops = append(m.Ops, op)
			if work, f := model.Work(m); work != 16384*n || f != (api.Fault{}) {
				t.Errorf("kind %d, %d times: %d, %v", op.Kind, n, work, f)
			}
		}
		m.Ops = append(m.Ops, op, clamp())
		expectFault(t, fmt.Sprint("nine of kind ", op.Kind), m, api.ErrWork, 9)
	}
}

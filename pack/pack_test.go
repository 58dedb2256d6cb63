package pack_test

import (
	"bytes"
	"math"
	"math/big"
	"math/rand"
	"reflect"
	"slices"
	"testing"

	"spillway/api"
	"spillway/model"
	"spillway/pack"
)

func fault(e api.Errno, op int) api.Fault { return api.Fault{Err: e, Op: op} }

// expectFault: Decode of b answers this fault, and no model beside it.
func expectFault(t *testing.T, what string, b []byte, want api.Fault) {
	t.Helper()
	m, f := pack.Decode(b)
	if f != want {
		t.Errorf("%s: %v, not %v", what, f, want)
	}
	if !reflect.DeepEqual(m, api.Model{}) {
		t.Errorf("%s: %v, but the model %+v", what, f, m)
	}
}

// expectModel: Decode of b answers this model.
func expectModel(t *testing.T, what string, b []byte, want api.Model) {
	t.Helper()
	if m, f := pack.Decode(b); f != (api.Fault{}) || !sameModel(m, want) {
		t.Errorf("%s: %+v, %v, not %+v", what, m, f, want)
	}
}

// expectSame: Decode of b answers what the chapter's second reading does.
func expectSame(t *testing.T, what string, b []byte) {
	t.Helper()
	want, f := decoded(b)
	if f != (api.Fault{}) {
		expectFault(t, what, b, f)
		return
	}
	expectModel(t, what, b, want)
	if again, f := pack.Encode(want); f != (api.Fault{}) || !bytes.Equal(again, b) {
		t.Errorf("%s: encoded again % x, %v, not % x", what, again, f, b)
	}
}

// The chapter's example 1.
func TestExampleOne(t *testing.T) {
	m, want := example()
	b, f := pack.Encode(m)
	if f != (api.Fault{}) || !bytes.Equal(b, want) {
		t.Errorf("% x, %v, not % x", b, f, want)
	}
	expectModel(t, "the example", want, m)
}

// The chapter's example 2, and what stands nearby.
func TestExampleTwo(t *testing.T) {
	_, b := example()
	turned := bytes.Clone(b)
	turned[13] = 1
	expectFault(t, "three bytes", b[:3], fault(api.ErrShort, 0))
	expectFault(t, "SWM2", []byte{0x53, 0x57, 0x4d, 0x32}, fault(api.ErrForm, 0))
	expectFault(t, "A is 1", turned, fault(api.ErrEdge, 1))
	expectFault(t, "cut behind its weights", b[:27], fault(api.ErrShort, 1))
	expectFault(t, "00 behind", append(bytes.Clone(b), 0), fault(api.ErrTail, 0))
}

// P9.1: the bytes are the chapter's table, number by number.
func TestEncodeBytes(t *testing.T) {
	for _, n := range allModels() {
		want := bytesOf(n.m)
		if b, f := pack.Encode(n.m); f != (api.Fault{}) || !bytes.Equal(b, want) {
			t.Errorf("%s: %v, % x, not % x", n.name, f, b[:min(len(b), 60)], want[:min(len(want), 60)])
		}
	}
}

// wrong are models with each of model.Check's faults.
func wrong() map[string]func(m *api.Model) {
	return map[string]func(m *api.Model){
		"In":            func(m *api.Model) { m.In.H = 0 },
		"In, wide":      func(m *api.Model) { m.In.W = math.MaxInt },
		"Lo":            func(m *api.Model) { m.Lo = -129 },
		"Hi, below Lo":  func(m *api.Model) { m.Lo, m.Hi = 5, 4 },
		"too many":      func(m *api.Model) { m.Ops = append(m.Ops, make([]api.Op, 64)...) },
		"Out":           func(m *api.Model) { m.Out = len(m.Ops) + 1 },
		"Out, negative": func(m *api.Model) { m.Out = -1 },
		"Kind":          func(m *api.Model) { m.Ops[1].Kind = 9 },
		"Kind, none":    func(m *api.Model) { m.Ops[1].Kind = -1 },
		"A":             func(m *api.Model) { m.Ops[1].A = 2 },
		"A, negative":   func(m *api.Model) { m.Ops[1].A = math.MinInt },
		"B":             func(m *api.Model) { m.Ops[4].B = 5 },
		"field":         func(m *api.Model) { m.Ops[6].Zero = 1 },
		"list":          func(m *api.Model) { m.Ops[6].Bias = []int32{0} },
		"M":             func(m *api.Model) { m.Ops[8].M = 1025 },
		"window":        func(m *api.Model) { m.Ops[2].Win.KH = 4 },
		"shape":         func(m *api.Model) { m.Ops[4].A = 0 },
		"length":        func(m *api.Model) { m.In.C = 57 },
		"weights":       func(m *api.Model) { m.Ops[8].Weights = m.Ops[8].Weights[1:] },
		"biases":        func(m *api.Model) { m.Ops[8].Bias = nil },
		"scale":         func(m *api.Model) { m.Ops[5].SA.Shift = 63 },
		"Zero":          func(m *api.Model) { m.Ops[5].Zero = 128 },
		"Pad":           func(m *api.Model) { m.Ops[0].Pad = -129 },
		"work":          workTooMuch,
	}
}

func workTooMuch(m *api.Model) {
	*m = chain(of(8, 8, 8), dense(512, 255), rescale(), dense(255, 3))
}

// P9.1: of a model that isn't well-formed Encode answers Check's fault, and no
// bytes.
func TestEncodeFaults(t *testing.T) {
	met := map[api.Errno]bool{}
	for name, turn := range wrong() {
		m := everyKind()
		turn(&m)
		want := model.Check(m)
		met[want.Err] = true
		if b, f := pack.Encode(m); f != want || len(b) != 0 {
			t.Errorf("%s: % x, %v, not %v", name, b, f, want)
		}
	}
	for _, e := range []api.Errno{api.ErrShape, api.ErrRange, api.ErrMany, api.ErrPlace, api.ErrKind, api.ErrEdge, api.ErrField,
		api.ErrArg, api.ErrWindow, api.ErrReduce, api.ErrLens, api.ErrScale, api.ErrWork} {
		if !met[e] {
			t.Errorf("no model has the fault %v", e)
		}
	}
	if met[api.OK] {
		t.Error("a model is well-formed")
	}
	if b, f := pack.Encode(api.Model{}); f != fault(api.ErrShape, 0) || len(b) != 0 {
		t.Errorf("no model: % x, %v", b, f)
	}
}

// hasBytes: is each of the model's numbers one that its form takes?
func hasBytes(m api.Model) bool {
	return !slices.ContainsFunc(numbersOf(m), func(n number) bool {
		least, most := n.sort.ends()
		return n.x < least || n.x > most
	})
}

// P9.2: behind the reading comes Check's fault of what was read, with its op.
func TestDecodeAnswersCheck(t *testing.T) {
	for name, turn := range wrong() {
		m := everyKind()
		turn(&m)
		if !hasBytes(m) {
			continue
		}
		expectFault(t, name, bytesOf(m), model.Check(m))
		expectFault(t, name+", and a byte", append(bytesOf(m), 1), fault(api.ErrTail, 0))
	}
}

// P9.2: whatever model.Check says of an op, a fault of the bytes behind it is
// answered.
func TestReadingAheadOfCheck(t *testing.T) {
	m := everyKind()
	m.In.H = 0
	m.Ops[0].Kind = 99
	numbers := numbersOf(m)
	forms := formsOf(numbers)
	for i, n := range numbers {
		expectFault(t, n.name, slices.Concat(forms[:i+1]...), fault(api.ErrShort, n.op))
	}
	whole := slices.Concat(forms...)
	expectFault(t, "whole", whole, fault(api.ErrShape, 0))
	expectFault(t, "and a byte", append(whole, 0x80), fault(api.ErrTail, 0))
}

// P9.2: fewer than four bytes are ErrShort whatever they are; four others are
// ErrForm whatever stands behind them.
func TestFourBytes(t *testing.T) {
	_, b := example()
	expectFault(t, "nil", nil, fault(api.ErrShort, 0))
	expectFault(t, "empty", []byte{}, fault(api.ErrShort, 0))
	for n := range 4 {
		expectFault(t, "a front", b[:n], fault(api.ErrShort, 0))
		expectFault(t, "others", bytes.Repeat([]byte{0x99}, n), fault(api.ErrShort, 0))
	}
	expectFault(t, "four alone", b[:4], fault(api.ErrShort, 0))
	for at := range 4 {
		for x := range 256 {
			turned := bytes.Clone(b)
			turned[at] = byte(x)
			if turned[at] == b[at] {
				continue
			}
			expectFault(t, "turned", turned, fault(api.ErrForm, 0))
			expectFault(t, "turned, alone", turned[:4], fault(api.ErrForm, 0))
			expectFault(t, "turned, cut", turned[:20], fault(api.ErrForm, 0))
		}
	}
	expectFault(t, "a byte ahead", append([]byte{0}, b...), fault(api.ErrForm, 0))
	expectFault(t, "without them", b[4:], fault(api.ErrForm, 0))
}

// beyond are forms that no number of this sort has, and the fault of each.
func beyond(s sort) map[string]api.Errno {
	least, most := s.ends()
	above := api.ErrForm
	if s.isCount() {
		above = api.ErrLong
	}
	all := map[string]api.Errno{}
	for _, step := range []int64{1, 2, 127, 128, 1 << 31, 1 << 32, 1 << 40} {
		all[string(formOf(s, big.NewInt(most+step)))] = above
		if s.hasSign() {
			all[string(formOf(s, big.NewInt(least-step)))] = above
		}
	}
	// 2^63 - 1 and -2^63 of those with a sign, 2^64 - 2 and 2^64 - 1 of the others.
	all[string(append(bytes.Repeat([]byte{0xff}, 9), 0x01))] = above
	all[string(append([]byte{0xfe}, append(bytes.Repeat([]byte{0xff}, 8), 0x01)...))] = above
	// Such as are the form of nothing.
	all[string(append(bytes.Repeat([]byte{0xff}, 9), 0x02))] = api.ErrForm
	all[string(bytes.Repeat([]byte{0xff}, 10))] = api.ErrForm
	all[string(append(bytes.Repeat([]byte{0x80}, 9), 0x00))] = api.ErrForm
	all["\x80\x00"] = api.ErrForm
	return all
}

// P9.2: each number by itself: beyond its ends, in a longer form than its own,
// or not there; and the op in which that is met. What stands behind it doesn't
// matter.
func TestEachNumber(t *testing.T) {
	for _, m := range smallModels() {
		numbers := numbersOf(m.m)
		forms := formsOf(numbers)
		for i, n := range numbers {
			ahead, behind := slices.Concat(forms[:i+1]...), slices.Concat(forms[i+2:]...)
			bad := beyond(n.sort)
			longer := n.form()
			longer[len(longer)-1] |= 0x80
			bad[string(append(longer, 0))] = api.ErrForm
			for form, e := range bad {
				b := append(bytes.Clone(ahead), form...)
				expectFault(t, m.name+": "+n.name, append(bytes.Clone(b), behind...), fault(e, n.op))
				expectFault(t, m.name+": "+n.name+", no more", b, fault(e, n.op))
				expectFault(t, m.name+": "+n.name+", more", append(bytes.Clone(b), 0x80, 0x00, 0x81, 0x00), fault(e, n.op))
			}
			for cut := range len(n.form()) {
				expectFault(t, m.name+": "+n.name+", cut", append(bytes.Clone(ahead), n.form()[:cut]...), fault(api.ErrShort, n.op))
			}
			for count := 1; count < 10; count++ {
				b := append(bytes.Clone(ahead), bytes.Repeat([]byte{0xff}, count)...)
				expectFault(t, m.name+": "+n.name+", unended", b, fault(api.ErrShort, n.op))
			}
		}
	}
}

// P9.2: each number at its ends is read; then it is Check that answers, or the
// model.
func TestEachNumberAtItsEnds(t *testing.T) {
	taken := 0
	for _, m := range smallModels() {
		numbers := numbersOf(m.m)
		for i, n := range numbers {
			if n.sort.isCount() {
				continue
			}
			least, most := n.sort.ends()
			for _, x := range []int64{least, least + 1, most - 1, most, 0, 1, 127, 128} {
				turned := slices.Clone(numbers)
				turned[i].x = x
				b := slices.Concat(formsOf(turned)...)
				if _, f := pack.Decode(b); f == (api.Fault{}) {
					taken++
				} else if f.Err == api.ErrForm {
					t.Errorf("%s: %s %d is refused", m.name, n.name, x)
				}
				expectSame(t, m.name+": "+n.name, b)
			}
		}
	}
	if taken == 0 {
		t.Error("no model is taken")
	}
}

// P9.2: the ends of a dimension, of Out and of an op's field, by name.
func TestGreatestPlainNumbers(t *testing.T) {
	m, _ := example()
	for name, c := range map[string]struct {
		do   func(m *api.Model, x int)
		want api.Fault // of 2^31 - 1
		op   int       // in which 2^31 is met
	}{
		"H":    {func(m *api.Model, x int) { m.In.H = x }, fault(api.ErrShape, 0), 0},
		"C":    {func(m *api.Model, x int) { m.In.C = x }, fault(api.ErrShape, 0), 0},
		"Out":  {func(m *api.Model, x int) { m.Out = x }, fault(api.ErrPlace, 0), 0},
		"Kind": {func(m *api.Model, x int) { m.Ops[0].Kind = x }, fault(api.ErrKind, 1), 1},
		"A":    {func(m *api.Model, x int) { m.Ops[0].A = x }, fault(api.ErrEdge, 1), 1},
		"M":    {func(m *api.Model, x int) { m.Ops[0].M = x }, fault(api.ErrArg, 1), 1},
		"KW":   {func(m *api.Model, x int) { m.Ops[0].Win.KW = x }, fault(api.ErrField, 1), 1},
		"Mult": {func(m *api.Model, x int) { m.Ops[0].SA.Mult = x }, api.Fault{}, 1},
		"SB":   {func(m *api.Model, x int) { m.Ops[0].SB.Shift = x }, fault(api.ErrField, 1), 1},
	} {
		turned := m
		turned.Ops = slices.Clone(m.Ops)
		c.do(&turned, math.MaxInt32)
		if c.want == (api.Fault{}) {
			expectModel(t, name, bytesOf(turned), turned)
		} else {
			expectFault(t, name, bytesOf(turned), c.want)
		}
		c.do(&turned, math.MaxInt32+1)
		expectFault(t, name, bytesOf(turned), fault(api.ErrForm, c.op))
	}
}

// P9.2: the ends of the numbers with a sign, by name.
func TestEndsOfSigned(t *testing.T) {
	for name, c := range map[string]struct {
		do          func(op *api.Op, x int)
		least, most int
		want        api.Errno
	}{
		"Zero": {func(op *api.Op, x int) { op.Zero = x }, math.MinInt32, math.MaxInt32, api.ErrRange},
		"Pad":  {func(op *api.Op, x int) { op.Pad = x }, math.MinInt32, math.MaxInt32, api.ErrRange},
		"Lo":   {func(op *api.Op, x int) { op.Lo = x }, math.MinInt32, math.MaxInt32, api.ErrRange},
		"Hi":   {func(op *api.Op, x int) { op.Hi = x }, math.MinInt32, math.MaxInt32, api.ErrRange},
	} {
		m := chain(of(2, 2, 1), clamp(), conv(1, 1, square(1, 0)))
		for _, x := range []int{c.least, c.most} {
			c.do(&m.Ops[1], x)
			expectFault(t, name, bytesOf(m), fault(c.want, 2))
		}
		for _, x := range []int{c.least - 1, c.most + 1} {
			c.do(&m.Ops[1], x)
			expectFault(t, name, bytesOf(m), fault(api.ErrForm, 2))
		}
	}
}

// withCount are the bytes of a model's numbers with its first count of this sort
// set, and so many of what it counts there.
func withCount(numbers []number, s sort, count, there int) []byte {
	at := slices.IndexFunc(numbers, func(n number) bool { return n.sort == s })
	item := number{"an item", 1, weight, -3}
	if s == biases {
		item.sort = signed
	}
	turned := slices.Concat(numbers[:at+1], slices.Repeat([]number{item}, there), numbers[at+1+int(numbers[at].x):])
	turned[at].x = int64(count)
	return slices.Concat(formsOf(turned)...)
}

// P9.2: counts at their limits and one above.
func TestCounts(t *testing.T) {
	m, _ := example()
	numbers := numbersOf(m)
	expectFault(t, "131072 weights", withCount(numbers, weights, 131072, 131072), fault(api.ErrLens, 1))
	upToWeights := numbers[:21]
	expectFault(t, "131072 weights, one short", withCount(upToWeights, weights, 131072, 131071), fault(api.ErrShort, 1))
	expectFault(t, "131073 weights", withCount(numbers, weights, 131073, 131073), fault(api.ErrLong, 1))
	expectFault(t, "131073 weights, none there", withCount(numbers, weights, 131073, 0), fault(api.ErrLong, 1))
	expectFault(t, "1024 biases", withCount(numbers, biases, 1024, 1024), fault(api.ErrLens, 1))
	expectFault(t, "1025 biases", withCount(numbers, biases, 1025, 1025), fault(api.ErrLong, 1))
	expectFault(t, "1025 biases, none there", withCount(numbers, biases, 1025, 0), fault(api.ErrLong, 1))
	expectFault(t, "a bias too many", withCount(numbers, biases, 2, 2), fault(api.ErrLens, 1))

	many := chain(of(1, 1, 1), slices.Repeat([]api.Op{clamp()}, 64)...)
	expectModel(t, "64 ops", bytesOf(many), many)
	more := chain(of(1, 1, 1), slices.Repeat([]api.Op{clamp()}, 65)...)
	expectFault(t, "65 ops", bytesOf(more), fault(api.ErrLong, 0))
	forms := formsOf(numbersOf(more))
	expectFault(t, "65 ops, none there", slices.Concat(forms[:7]...), fault(api.ErrLong, 0))
	forms = formsOf(numbersOf(many))
	expectFault(t, "64 ops, none there", slices.Concat(forms[:7]...), fault(api.ErrShort, 1))
	expectFault(t, "within op 64", slices.Concat(forms[:len(forms)-2]...), fault(api.ErrShort, 64))
	expectFault(t, "behind op 64", slices.Concat(forms[:len(forms)-1]...), fault(api.ErrShort, 0))
}

// P9.3: there and back.
func TestThereAndBack(t *testing.T) {
	for _, n := range allModels() {
		b, f := pack.Encode(n.m)
		if f != (api.Fault{}) {
			t.Errorf("%s: %v", n.name, f)
		}
		m, f := pack.Decode(b)
		if f != (api.Fault{}) || !sameModel(m, n.m) {
			t.Errorf("%s: another model: %v", n.name, f)
		}
		again, f := pack.Encode(m)
		if f != (api.Fault{}) || !bytes.Equal(again, b) {
			t.Errorf("%s: other bytes: %v", n.name, f)
		}
	}
}

// P9.3, P7: of models of all kinds, by the thousand.
func TestThereAndBackOfAny(t *testing.T) {
	r := rand.New(rand.NewSource(91))
	for range 4000 {
		m := anyModel(t, r, 6)
		want := bytesOf(m)
		b, f := pack.Encode(m)
		if f != (api.Fault{}) || !bytes.Equal(b, want) {
			t.Fatalf("%+v: % x, %v, not % x", m, b, f, want)
		}
		expectModel(t, "any model", b, m)
	}
}

// P9.4: cut anywhere, with the op within which the cut is; and with a byte more.
func TestCutsAndTails(t *testing.T) {
	for _, n := range smallModels() {
		b := bytesOf(n.m)
		ops := opOfEachByte(n.m)
		for cut := range b {
			expectFault(t, n.name+", cut", b[:cut], fault(api.ErrShort, ops[cut]))
		}
		for x := range 256 {
			expectFault(t, n.name+", and a byte", append(bytes.Clone(b), byte(x)), fault(api.ErrTail, 0))
		}
		expectFault(t, n.name+", twice", append(bytes.Clone(b), b...), fault(api.ErrTail, 0))
	}
	r := rand.New(rand.NewSource(94))
	for _, n := range greatModels() {
		b := bytesOf(n.m)
		ops := opOfEachByte(n.m)
		for range 40 {
			cut := r.Intn(len(b))
			expectFault(t, n.name+", cut", b[:cut], fault(api.ErrShort, ops[cut]))
		}
		expectFault(t, n.name+", and a byte", append(bytes.Clone(b), 0), fault(api.ErrTail, 0))
	}
}

// opOfEachByte: within which op a byte stands.
func opOfEachByte(m api.Model) []int {
	ops := make([]int, 4)
	for _, n := range numbersOf(m) {
		ops = append(ops, slices.Repeat([]int{n.op}, len(n.form()))...)
	}
	return ops
}

// P1, P9.2, P9.3: every byte of a model turned, in the example to every other.
func TestEachByteTurned(t *testing.T) {
	for i, n := range smallModels() {
		b := bytesOf(n.m)
		for at := range b {
			to := []byte{0, 1, 2, 3, 8, 9, 0x7f, 0x80, 0xff, b[at] + 1, b[at] - 1, b[at] ^ 0x80}
			if i == 0 {
				to = everyByte()
			}
			for _, x := range to {
				turned := bytes.Clone(b)
				turned[at] = x
				expectSame(t, n.name, turned)
			}
		}
	}
}

func everyByte() []byte {
	all := make([]byte, 256)
	for i := range all {
		all[i] = byte(i)
	}
	return all
}

// P1, P9.2: random bytes, also such that begin as a model does.
func TestRandomBytes(t *testing.T) {
	r := rand.New(rand.NewSource(92))
	starts := [][]byte{nil, []byte("SWM1"), []byte("SWM1\x01\x01\x01"), []byte("SWM1\x01\x01\x02\x01\x00\x01"), []byte("SWM1\x02\x02\x02\x00\x00\x02\x07\x00\x00\x00")}
	for range 60000 {
		b := bytes.Clone(anyOf(r, starts...))
		for range r.Intn(60) {
			b = append(b, anyOf(r, 0, 0, 0, 1, 1, 2, 3, 8, 0x7f, 0x80, 0xff, byte(r.Intn(256))))
		}
		expectSame(t, "random bytes", b)
	}
}

// P1, P9.2, P9.3: models whose bytes are turned here and there.
func TestDisturbedBytes(t *testing.T) {
	r := rand.New(rand.NewSource(93))
	for range 20000 {
		b := bytesOf(anyModel(t, r, 3))
		for range 1 + r.Intn(3) {
			at := r.Intn(len(b))
			x := anyOf(r, 0, 1, 2, 0x7f, 0x80, 0xff, byte(r.Intn(256)))
			switch r.Intn(4) {
			case 0:
				b[at] = x
			case 1:
				b = slices.Insert(b, at, x)
			case 2:
				b = slices.Delete(b, at, min(at+1+r.Intn(2), len(b)))
			case 3:
				b = append(b[:at:at], slices.Concat(b[at:], []byte{x})...)
			}
			if len(b) == 0 {
				break
			}
		}
		expectSame(t, "disturbed bytes", b)
	}
}

package wire_test

import (
	"bytes"
	"math"
	"math/big"
	"slices"
	"testing"

	"spillway/api"
	"spillway/wire"
)

// form is x in groups of seven bits, worked out in whole numbers without end.
func form(x *big.Int) []byte {
	rest, group, base := new(big.Int).Set(x), new(big.Int), big.NewInt(128)
	var list []byte
	for {
		rest.QuoRem(rest, base, group)
		if rest.Sign() == 0 {
			return append(list, byte(group.Int64()))
		}
		list = append(list, byte(group.Int64()+128))
	}
}

func formU(x uint64) []byte { return form(new(big.Int).SetUint64(x)) }

func formS(x int64) []byte {
	doubled := new(big.Int).Mul(big.NewInt(x), big.NewInt(2))
	if x < 0 {
		doubled.Neg(doubled).Sub(doubled, big.NewInt(1))
	}
	return form(doubled)
}

// withoutSign are 0 and the numbers around each power of two, so around each
// edge between two lengths, and 2^64 - 1.
func withoutSign() []uint64 {
	list := []uint64{300, math.MaxUint64, math.MaxUint64 - 1}
	for n := range 64 {
		p := uint64(1) << n
		list = append(list, p-1, p, p+1)
	}
	return list
}

func withSign() []int64 {
	var list []int64
	for _, x := range withoutSign() {
		list = append(list, int64(x), -int64(x))
	}
	return append(list, math.MinInt64, math.MinInt64+1, math.MaxInt64)
}

// times is n bytes b, and the last ones behind them.
func times(n int, b byte, last ...byte) []byte {
	return append(bytes.Repeat([]byte{b}, n), last...)
}

// state is all that may be asked of a reader without taking anything.
type state struct {
	left     int
	err, end api.Errno
}

func stateOf(r *wire.Reader) state { return state{r.Left(), r.Err(), r.End()} }

// stuck is a reader that met the fault e with n bytes left.
func stuck(n int, e api.Errno) state { return state{n, e, e} }

func fresh(n int) state {
	if n > 0 {
		return state{n, api.OK, api.ErrTail}
	}
	return state{}
}

func TestFormsOfTheChapter(t *testing.T) {
	// P4.1: the numbers that the chapter writes out.
	for _, r := range []struct {
		x    uint64
		want []byte
	}{
		{0, []byte{0}}, {1, []byte{1}}, {127, []byte{0x7f}}, {128, []byte{0x80, 1}}, {300, []byte{0xac, 2}},
		{16383, []byte{0xff, 0x7f}}, {16384, []byte{0x80, 0x80, 1}},
		{1<<63 - 1, times(8, 255, 0x7f)}, {1 << 63, times(9, 128, 1)}, {math.MaxUint64, times(9, 255, 1)},
	} {
		if got := wire.PutU(nil, r.x); !bytes.Equal(got, r.want) {
			t.Errorf("PutU(nil, %d): % x, not % x", r.x, got, r.want)
		}
	}
	for _, r := range []struct {
		x    int64
		want []byte
	}{
		{0, []byte{0}}, {-1, []byte{1}}, {1, []byte{2}}, {-2, []byte{3}}, {63, []byte{0x7e}}, {-64, []byte{0x7f}},
		{64, []byte{0x80, 1}}, {-65, []byte{0x81, 1}},
		{math.MaxInt64, times(1, 254, times(8, 255, 1)...)}, {math.MinInt64, times(9, 255, 1)},
	} {
		if got := wire.PutS(nil, r.x); !bytes.Equal(got, r.want) {
			t.Errorf("PutS(nil, %d): % x, not % x", r.x, got, r.want)
		}
	}
	if got := wire.PutU([]byte{0xaa}, 300); !bytes.Equal(got, []byte{0xaa, 0xac, 2}) {
		t.Errorf("PutU([aa], 300): % x", got)
	}
}

func TestPutsBehindBytes(t *testing.T) {
	// P4.1: b's bytes, then x's form, at every edge and behind lists of several
	// lengths.
	for _, b := range [][]byte{nil, {}, {0}, {0xaa}, {0x80, 0xff, 0}, times(100, 7)} {
		for _, x := range withoutSign() {
			if got, want := wire.PutU(b, x), slices.Concat(b, formU(x)); !bytes.Equal(got, want) {
				t.Fatalf("PutU(% x, %d): % x, not % x", b, x, got, want)
			}
		}
		for _, x := range withSign() {
			if got, want := wire.PutS(b, x), slices.Concat(b, formS(x)); !bytes.Equal(got, want) {
				t.Fatalf("PutS(% x, %d): % x, not % x", b, x, got, want)
			}
		}
	}
}

// puts are both putting calls, for what is asked of both alike.
func puts() map[string]func([]byte) []byte {
	return map[string]func([]byte) []byte{
		"PutU": func(b []byte) []byte { return wire.PutU(b, 300) },
		"PutS": func(b []byte) []byte { return wire.PutS(b, -300) },
	}
}

func TestPutsLeaveWhatTheyAreGiven(t *testing.T) {
	// P4.1: b stays, its spare room too.
	for name, put := range puts() {
		for length := range 4 {
			room := times(40, 0xee)
			put(room[:length])
			if !bytes.Equal(room, times(40, 0xee)) {
				t.Errorf("%s wrote into the room behind %d bytes: % x", name, length, room)
			}
		}
	}
}

func TestPutsAnswerNewMemory(t *testing.T) {
	// P4.1: the answer is new memory, its spare room too, also where b is empty.
	for name, put := range puts() {
		for length := range 4 {
			room := times(40, 0xee)
			got, other := put(room[:length]), put(room[:length])
			kept := bytes.Clone(other)
			got = got[:cap(got)]
			for i := range got {
				got[i] = 0x55
			}
			if !bytes.Equal(room, times(40, 0xee)) {
				t.Errorf("%s: an answer behind %d bytes shares memory with them", name, length)
			}
			if !bytes.Equal(other, kept) {
				t.Errorf("%s: two answers behind %d bytes share memory", name, length)
			}
		}
	}
}

func TestNewReaders(t *testing.T) {
	// P4.2: all bytes in front, no fault, never nil.
	for _, b := range [][]byte{nil, {}, {0}, {0x80}, times(30, 255)} {
		r := wire.New(b)
		if r == nil {
			t.Fatalf("New(% x) is nil", b)
		}
		if got := stateOf(r); got != fresh(len(b)) {
			t.Errorf("New(% x): %v", b, got)
		}
	}
}

func TestReadersKeepBytesOfTheirOwn(t *testing.T) {
	// P4.2: what is written into b after New isn't seen.
	room := times(4, 0, 9, 9)
	b := room[:4]
	copy(b, []byte{0xac, 2, 3, 4})
	r := wire.New(b)
	clear(room)
	if x, y, z := r.U(), r.S(), r.N(4); x != 300 || y != -2 || z != 4 || stateOf(r) != fresh(0) {
		t.Errorf("after b was written: %d, %d, %d, %v", x, y, z, stateOf(r))
	}

	// A reader takes without a trace in b.
	b = []byte{0xac, 2, 3, 0x80}
	r = wire.New(b)
	r.U()
	r.S()
	r.U()
	if !bytes.Equal(b, []byte{0xac, 2, 3, 0x80}) {
		t.Errorf("b was written by a reader: % x", b)
	}
}

func TestTakesWhatWasPut(t *testing.T) {
	// P4.3: one number behind the other, each by the call of its kind.
	var b []byte
	us, ss := withoutSign(), withSign()
	for i := range us {
		b = wire.PutS(wire.PutU(b, us[i]), ss[i])
	}
	r := wire.New(b)
	left := len(b)
	for i := range us {
		if got := r.U(); got != us[i] {
			t.Fatalf("U: %d, not %d", got, us[i])
		}
		left -= len(formU(us[i]))
		if got := stateOf(r); got != fresh(left) {
			t.Fatalf("behind U of %d: %v, %d are left", us[i], got, left)
		}
		if got := r.S(); got != ss[i] {
			t.Fatalf("S: %d, not %d", got, ss[i])
		}
		left -= len(formS(ss[i]))
		if got := stateOf(r); got != fresh(left) {
			t.Fatalf("behind S of %d: %v, %d are left", ss[i], got, left)
		}
	}
	if got := stateOf(r); got != fresh(0) {
		t.Errorf("at the end: %v", got)
	}
}

func TestSignsAtTheEdges(t *testing.T) {
	// P4.3: every edge with a sign, alone.
	for _, x := range withSign() {
		r := wire.New(formS(x))
		if got := r.S(); got != x || stateOf(r) != fresh(0) {
			t.Errorf("S of %d: %d, %v", x, got, stateOf(r))
		}
	}
}

// wanted is what the chapter says of a number in front of b, asked of the bytes
// in the promise's order and words.
func wanted(b []byte) (x *big.Int, size int, e api.Errno) {
	last := slices.IndexFunc(b, func(c byte) bool { return c < 128 })
	if last < 0 && len(b) < 10 {
		return new(big.Int), 0, api.ErrShort
	}
	if last < 0 || last > 9 || last == 9 && b[9] > 1 || last > 0 && b[last] == 0 {
		return new(big.Int), 0, api.ErrForm
	}
	x = new(big.Int)
	for i := last; i >= 0; i-- {
		x.Mul(x, big.NewInt(128)).Add(x, big.NewInt(int64(b[i]%128)))
	}
	return x, last + 1, api.OK
}

// fronts are all lists of at most three bytes out of the telling ones, alone and
// behind five to nine bytes that go on, so that lists of up to twelve are there.
func fronts() [][]byte {
	telling := []byte{0, 1, 2, 0x7f, 0x80, 0x81, 0xff}
	short := [][]byte{{}}
	for i := 0; len(short[i]) < 3; i++ {
		for _, c := range telling {
			short = append(short, append(bytes.Clone(short[i]), c))
		}
	}
	list := short
	for n := 5; n <= 9; n++ {
		for _, c := range []byte{0x80, 0xff} {
			for _, s := range short {
				list = append(list, times(n, c, s...))
			}
		}
	}
	return list
}

func TestFormsAndFaults(t *testing.T) {
	// P4.3: U and S of every front: the number, or the first fault that applies
	// and nothing taken.
	for _, b := range fronts() {
		x, size, e := wanted(b)
		want := fresh(len(b) - size)
		if e != api.OK {
			want = stuck(len(b), e)
		}
		r := wire.New(b)
		if got := r.U(); got != x.Uint64() || stateOf(r) != want {
			t.Fatalf("U of % x: %d, %v, not %d, %v", b, got, stateOf(r), x, want)
		}
		signed, odd := new(big.Int).QuoRem(x, big.NewInt(2), new(big.Int))
		if odd.Sign() > 0 {
			signed.Neg(signed).Sub(signed, odd)
		}
		r = wire.New(b)
		if got := r.S(); got != signed.Int64() || stateOf(r) != want {
			t.Fatalf("S of % x: %d, %v, not %d, %v", b, got, stateOf(r), signed, want)
		}
	}
}

func TestCountsUpToMost(t *testing.T) {
	// P4.3: N of every front: at most most; the form's faults come first, and any
	// number is above a most below 0.
	mosts := []int{math.MinInt, -128, -1, 0, 1, 2, 127, 128, 129, 255, 256, 16383, 16384, math.MaxInt - 1, math.MaxInt}
	for _, b := range fronts() {
		for _, most := range mosts {
			x, size, e := wanted(b)
			if e == api.OK && x.Cmp(big.NewInt(int64(most))) > 0 {
				e = api.ErrLong
			}
			want, count := fresh(len(b)-size), x.Int64()
			if e != api.OK {
				want, count = stuck(len(b), e), 0
			}
			r := wire.New(b)
			if got := r.N(most); int64(got) != count || stateOf(r) != want {
				t.Fatalf("N(%d) of % x: %d, %v, not %d, %v", most, b, got, stateOf(r), count, want)
			}
		}
	}
	for _, x := range withoutSign() {
		if x > math.MaxInt {
			continue
		}
		r := wire.New(formU(x))
		if got := r.N(int(x)); uint64(got) != x || stateOf(r) != fresh(0) {
			t.Errorf("N(%d) of itself: %d, %v", x, got, stateOf(r))
		}
		r = wire.New(formU(x))
		if got := r.N(int(x) - 1); got != 0 || r.Err() != api.ErrLong {
			t.Errorf("N(%d) of one more: %d, %d", int(x)-1, got, r.Err())
		}
	}
}

func TestNothingIsTakenBehindAFault(t *testing.T) {
	// P4.3, P4.4: the first fault stays, and so do the bytes, even where a number
	// stands in front that another call would take.
	for _, c := range []struct {
		b     []byte
		fault api.Errno
		meet  func(r *wire.Reader)
	}{
		{[]byte{1, 0x80}, api.ErrShort, func(r *wire.Reader) { r.U(); r.U() }},
		{[]byte{1}, api.ErrShort, func(r *wire.Reader) { r.S(); r.S() }},
		{[]byte{1, 0x80, 0, 4}, api.ErrForm, func(r *wire.Reader) { r.N(1); r.S() }},
		{times(9, 255, 2, 3, 4), api.ErrForm, func(r *wire.Reader) { r.U() }},
		{[]byte{5, 6, 7}, api.ErrLong, func(r *wire.Reader) { r.N(4) }},
		{[]byte{0, 6, 7}, api.ErrLong, func(r *wire.Reader) { r.N(-1) }},
	} {
		r := wire.New(c.b)
		c.meet(r)
		want := stateOf(r)
		if want.err != c.fault || want.end != c.fault {
			t.Errorf("% x: %v, not the fault %d", c.b, want, c.fault)
		}
		for range 3 {
			if u, s, n := r.U(), r.S(), r.N(100); u != 0 || s != 0 || n != 0 {
				t.Errorf("% x: behind a fault %d, %d, %d are taken", c.b, u, s, n)
			}
			r.N(-1)
			if got := stateOf(r); got != want {
				t.Errorf("% x: behind a fault %v became %v", c.b, want, got)
			}
		}
	}
}

func TestAskingChangesNothing(t *testing.T) {
	// P4.4: bytes that are left are no fault, ask as often as you like.
	r := wire.New([]byte{0xac, 2, 3})
	for range 3 {
		if got := stateOf(r); got != fresh(3) {
			t.Errorf("new: %v", got)
		}
	}
	if x := r.U(); x != 300 {
		t.Errorf("U behind End: %d", x)
	}
	if got := stateOf(r); got != fresh(1) {
		t.Errorf("behind U: %v", got)
	}
	if x := r.S(); x != -2 || stateOf(r) != fresh(0) || r.End() != api.OK {
		t.Errorf("behind S: %d, %v", x, stateOf(r))
	}
}

func TestExamplesOfFaults(t *testing.T) {
	// P4.3, P4.4: the chapter's third and fourth example, each in one line.
	r := wire.New([]byte{0x80})
	if x := r.U(); x != 0 || stateOf(r) != stuck(1, api.ErrShort) || r.S() != 0 {
		t.Errorf("80: %d, %v", x, stateOf(r))
	}
	for _, c := range []struct {
		b     []byte
		x     uint64
		fault api.Errno
	}{
		{[]byte{0x80, 0}, 0, api.ErrForm}, {times(9, 255, 2), 0, api.ErrForm}, {times(10, 255), 0, api.ErrForm},
		{times(9, 255), 0, api.ErrShort}, {times(9, 128, 0), 0, api.ErrForm}, {times(9, 255, 1), math.MaxUint64, api.OK},
	} {
		r := wire.New(c.b)
		if x := r.U(); x != c.x || r.Err() != c.fault {
			t.Errorf("% x: %d, %d", c.b, x, r.Err())
		}
	}
	for _, c := range []struct {
		b     []byte
		most  int
		x     int
		state state
	}{
		{[]byte{5}, 4, 0, stuck(1, api.ErrLong)}, {[]byte{5}, 5, 5, fresh(0)}, {[]byte{5, 9}, 5, 5, fresh(1)},
		{[]byte{0}, -1, 0, stuck(1, api.ErrLong)}, {nil, -1, 0, stuck(0, api.ErrShort)},
	} {
		r := wire.New(c.b)
		if x := r.N(c.most); x != c.x || stateOf(r) != c.state {
			t.Errorf("N(%d) of % x: %d, %v", c.most, c.b, x, stateOf(r))
		}
	}
}

func TestReadersHaveNothingInCommon(t *testing.T) {
	// P4.5: one goes on, or meets a fault, and the other stays.
	b := []byte{0xac, 2, 3}
	one, other := wire.New(b), wire.New(b)
	one.U()
	one.N(-1)
	if got := stateOf(one); got != stuck(1, api.ErrLong) {
		t.Errorf("the one: %v", got)
	}
	if got := stateOf(other); got != fresh(3) {
		t.Errorf("the other: %v", got)
	}
	if x, y := other.U(), other.S(); x != 300 || y != -2 || stateOf(other) != fresh(0) {
		t.Errorf("the other: %d, %d, %v", x, y, stateOf(other))
	}
}

func TestNilReader(t *testing.T) {
	// P4.5, P1: a nil reader answers, again and again.
	var r *wire.Reader
	for range 2 {
		if u, s := r.U(), r.S(); u != 0 || s != 0 {
			t.Errorf("U %d, S %d", u, s)
		}
		for _, most := range []int{math.MinInt, -1, 0, 1, math.MaxInt} {
			if n := r.N(most); n != 0 {
				t.Errorf("N(%d): %d", most, n)
			}
		}
		if got := stateOf(r); got != stuck(0, api.ErrNil) {
			t.Errorf("%v", got)
		}
	}
}

func TestOtherReadersEnd(t *testing.T) {
	// P1: a reader that no maker answered; nothing is promised but that it ends.
	var r wire.Reader
	r.U()
	r.S()
	r.N(3)
	stateOf(&r)
}

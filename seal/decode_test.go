package seal_test

import (
	"bytes"
	"fmt"
	"math/big"
	"math/rand"
	"slices"
	"testing"

	"spillway/api"
	"spillway/seal"
)

// expectFault: Decode of b answers this fault, and no certificate beside it.
func expectFault(t *testing.T, what string, b []byte, want api.Fault) {
	t.Helper()
	c, f := seal.Decode(b)
	if f != want {
		t.Errorf("%s: %v, not %v", what, f, want)
	}
	if len(c.Ranges) != 0 || len(c.Plans) != 0 {
		t.Errorf("%s: %v, but the certificate %+v", what, f, c)
	}
}

// expectCert: Decode of b answers this certificate.
func expectCert(t *testing.T, what string, b []byte, want api.Cert) {
	t.Helper()
	if c, f := seal.Decode(b); f != (api.Fault{}) || !sameCert(c, want) {
		t.Errorf("%s: %+v, %v, not %+v", what, c, f, want)
	}
}

// expectSame: Decode of b answers what the second reading does; what it takes is
// encoded again, to the same bytes.
func expectSame(t *testing.T, what string, b []byte) api.Fault {
	t.Helper()
	want, f := decoded(b)
	if f != (api.Fault{}) {
		expectFault(t, what, b, f)
		return f
	}
	expectCert(t, what, b, want)
	expectBytes(t, what+", again", want, b)
	return f
}

// P16.2: fewer than four bytes are ErrShort whatever they are; four others are
// ErrForm whatever stands behind them.
func TestFourBytes(t *testing.T) {
	_, b := example()
	expectFault(t, "nil", nil, fault(api.ErrShort, 0, 0))
	expectFault(t, "empty", []byte{}, fault(api.ErrShort, 0, 0))
	for n := range 4 {
		expectFault(t, "a front", b[:n], fault(api.ErrShort, 0, 0))
		expectFault(t, "others", bytes.Repeat([]byte{0x99}, n), fault(api.ErrShort, 0, 0))
	}
	expectFault(t, "four alone", b[:4], fault(api.ErrShort, 0, 0))
	expectFault(t, "a model's", append([]byte("SWM1"), b[4:]...), fault(api.ErrForm, 0, 0))
	for at := range 4 {
		for x := range 256 {
			turned := bytes.Clone(b)
			turned[at] = byte(x)
			if turned[at] == b[at] {
				continue
			}
			for _, size := range []int{4, 5, 10, 12, len(b)} {
				expectFault(t, "turned", turned[:size], fault(api.ErrForm, 0, 0))
			}
			expectFault(t, "turned, and a byte", append(turned, 0), fault(api.ErrForm, 0, 0))
		}
	}
	expectFault(t, "a byte ahead", append([]byte{0}, b...), fault(api.ErrForm, 0, 0))
	expectFault(t, "without them", b[4:], fault(api.ErrForm, 0, 0))
}

// noForms are bytes that are no number's form, of ten bytes and more.
func noForms() [][]byte {
	return [][]byte{
		{0x80, 0x00}, {0xff, 0x00}, {0x80, 0x80, 0x00}, append(bytes.Repeat([]byte{0x80}, 9), 0x00),
		append(bytes.Repeat([]byte{0xff}, 9), 0x02), append(bytes.Repeat([]byte{0x80}, 9), 0x02), append(bytes.Repeat([]byte{0xff}, 9), 0x7f),
		bytes.Repeat([]byte{0xff}, 10), bytes.Repeat([]byte{0x80}, 10), append(bytes.Repeat([]byte{0x80}, 10), 0x01),
		append(bytes.Repeat([]byte{0xff}, 10), 0x00), bytes.Repeat([]byte{0xff}, 30),
	}
}

// beyond are the forms of numbers above the greatest of this sort (with a sign,
// below the least, too), and the fault of each.
func beyond(s sort) map[string]api.Errno {
	all := map[string]api.Errno{}
	least, most := s.ends()
	for _, step := range []int64{1, 2, 3, 63, 64, 127, 128, 1 << 31, 1 << 32, 1 << 40, 1 << 62} {
		above := new(big.Int).Add(big.NewInt(most), big.NewInt(step))
		below := new(big.Int).Sub(big.NewInt(least), big.NewInt(step))
		switch {
		case s.hasSign():
			all[string(formOf(s, above))], all[string(formOf(s, below))] = api.ErrForm, api.ErrForm
		case s.isCount():
			all[string(formOf(s, above))] = api.ErrLong
		default:
			all[string(formOf(s, above))] = api.ErrForm
		}
	}
	if !s.hasSign() {
		last := new(big.Int).SetUint64(1<<64 - 1)
		all[string(formOf(s, last))] = all[string(formOf(s, big.NewInt(most+1)))]
		low := new(big.Int).SetUint64(1<<63 + 1) // its low bits alone would be a right one
		all[string(formOf(s, low))] = all[string(formOf(s, big.NewInt(most+1)))]
	}
	return all
}

// longerForm is the number's form with a group of 0 behind it.
func longerForm(n number) []byte {
	longer := n.form()
	longer[len(longer)-1] |= 0x80
	return append(longer, 0)
}

// P16.2: each number by itself: beyond its ends, in a longer form than its own,
// of more bytes than a form can have, or not there; and the list and the plan in
// which that is met. What stands behind it doesn't matter.
func TestEachNumber(t *testing.T) {
	for _, c := range smallCerts() {
		numbers := numbersOf(c.c)
		forms := formsOf(numbers)
		for i, n := range numbers {
			what := fmt.Sprint(c.name, ", number ", i, ", ", n.name)
			ahead, behind := slices.Concat(forms[:i+1]...), slices.Concat(forms[i+2:]...)
			bad := beyond(n.sort)
			for _, form := range append(noForms(), longerForm(n)) {
				bad[string(form)] = api.ErrForm
			}
			for form, e := range bad {
				b := slices.Concat(ahead, []byte(form))
				expectFault(t, what, slices.Concat(b, behind), n.fault(e))
				expectFault(t, what+", no more", b, n.fault(e))
				expectFault(t, what+", more", slices.Concat(b, []byte{0x80, 0x00, 0x81, 0x00}), n.fault(e))
			}
			for cut := range len(n.form()) {
				expectFault(t, what+", cut", slices.Concat(ahead, n.form()[:cut]), n.fault(api.ErrShort))
			}
			for count := range 10 {
				unended := slices.Concat(ahead, bytes.Repeat([]byte{0x80}, count))
				expectFault(t, what+", unended", unended, n.fault(api.ErrShort))
			}
		}
	}
}

// P16.2: each number that isn't a count at its ends is taken.
func TestEachNumberAtItsEnds(t *testing.T) {
	for _, c := range smallCerts() {
		numbers := numbersOf(c.c)
		for i, n := range numbers {
			if n.sort.isCount() {
				continue
			}
			least, most := n.sort.ends()
			for _, x := range []int64{least, least + 1, most - 1, most, 0, 1, 63, 64, 127, 128} {
				turned := slices.Clone(numbers)
				turned[i].x = x
				if f := expectSame(t, fmt.Sprint(c.name, ", ", n.name, x), slices.Concat(formsOf(turned)...)); f != (api.Fault{}) {
					t.Errorf("%s: %s %d is refused: %v", c.name, n.name, x, f)
				}
			}
		}
	}
}

// P16.2: a Width or a Depth that is too great, by name, and ahead of what comes
// behind it.
func TestSizesTooGreat(t *testing.T) {
	c := api.Cert{Plans: [][]api.Chan{nil, spread(3), spread(2)}}
	for what, set := range sizeSetters() {
		for _, at := range [][2]int{{2, 1}, {2, 3}, {3, 1}, {3, 2}} {
			turned := copied(c)
			set(&turned.Plans[at[0]-1][at[1]-1], greatest)
			expectCert(t, what, bytesOf(turned), turned)
			for _, x := range []int{greatest + 1, greatest + 2, 1 << 32, 1<<32 + 16, 1 << 40, most} {
				set(&turned.Plans[at[0]-1][at[1]-1], x)
				b := bytesOf(turned)
				expectFault(t, what, b, fault(api.ErrForm, at[0], at[1]))
				expectFault(t, what+", and a byte", append(b, 0), fault(api.ErrForm, at[0], at[1]))
			}
		}
	}
	expectFault(t, "no Depth behind it", []byte("SWC1\x00\x01\x01\x80\x80\x80\x80\x08"), fault(api.ErrForm, 1, 1))
	expectFault(t, "a Depth cut behind it", []byte("SWC1\x00\x01\x01\x80\x80\x80\x80\x08\x80"), fault(api.ErrForm, 1, 1))
	expectFault(t, "no Part behind it", []byte("SWC1\x00\x01\x01\x00\x80\x80\x80\x80\x08"), fault(api.ErrForm, 1, 1))
	expectFault(t, "a Width cut", []byte("SWC1\x00\x01\x01\x80\x80\x80\x80"), fault(api.ErrShort, 1, 1))
}

// count is the form of a count, as the bytes may have it.
func count(n int64) []byte { return groupsOf(big.NewInt(n)) }

// P16.2: counts at their limits and one above, with what they count and without.
func TestCounts(t *testing.T) {
	for _, n := range greatCerts() {
		expectCert(t, n.name, bytesOf(n.c), n.c)
	}
	head := []byte("SWC1")
	for _, over := range []int64{1, 2, 62, 63, 64, 190, 1 << 8, 1 << 16, 1 << 32, 1 << 62} {
		what := fmt.Sprint("over by ", over)
		expectFault(t, what, slices.Concat(head, count(65+over)), fault(api.ErrLong, 0, 0))
		expectFault(t, what, slices.Concat(head, []byte{0}, count(64+over)), fault(api.ErrLong, 0, 0))
		expectFault(t, what, slices.Concat(head, []byte{0, 1}, count(1024+over)), fault(api.ErrLong, 1, 0))
		expectFault(t, what, slices.Concat(head, []byte{0, 3, 0, 0}, count(1024+over)), fault(api.ErrLong, 3, 0))
		expectFault(t, what, slices.Concat(head, []byte{0, 64}, make([]byte, 63), count(1024+over)), fault(api.ErrLong, 64, 0))
	}
	expectFault(t, "66 ranges, all there", bytesOf(api.Cert{Ranges: spansOf(66)}), fault(api.ErrLong, 0, 0))
	expectFault(t, "65 lists, all there", bytesOf(api.Cert{Plans: listsOf(65)}), fault(api.ErrLong, 0, 0))
	for _, op := range []int{1, 2, 64} {
		long := api.Cert{Plans: append(listsOf(op-1), spread(1025))}
		expectFault(t, "1025 plans, all there", bytesOf(long), fault(api.ErrLong, op, 0))
	}
	expectFault(t, "65 ranges, none there", slices.Concat(head, count(65)), fault(api.ErrShort, 0, 0))
	expectFault(t, "64 lists, none there", slices.Concat(head, []byte{0}, count(64)), fault(api.ErrShort, 1, 0))
	expectFault(t, "64 lists, 63 there", slices.Concat(head, []byte{0, 64}, make([]byte, 63)), fault(api.ErrShort, 64, 0))
	expectFault(t, "1024 plans, none there", slices.Concat(head, []byte{0, 1}, count(1024)), fault(api.ErrShort, 1, 1))
	b := bytesOf(api.Cert{Plans: [][]api.Chan{spread(1024)}})
	expectFault(t, "1024 plans, the last cut", b[:len(b)-1], fault(api.ErrShort, 1, 1024))
}

// P16.2: behind a list the next one's number holds, and behind the last none.
func TestPlacesBehindLists(t *testing.T) {
	head := "SWC1\x00\x03\x01\x01\x01\x00\x00\x00\x00"
	second := "\x02" + "\x01\x01\x00\x00\x00\x00" + "\x01\x01\x00\x00\x00\x00"
	for what, r := range map[string]struct {
		b    string
		want api.Fault
	}{
		"in plan 1 of list 1":  {head[:len(head)-1], fault(api.ErrShort, 1, 1)},
		"no list 2":            {head, fault(api.ErrShort, 2, 0)},
		"list 2's count":       {head + "\x80\x00", fault(api.ErrForm, 2, 0)},
		"no plan in list 2":    {head + "\x02", fault(api.ErrShort, 2, 1)},
		"in plan 2 of list 2":  {head + second[:len(second)-1], fault(api.ErrShort, 2, 2)},
		"no list 3":            {head + second, fault(api.ErrShort, 3, 0)},
		"list 3 is too long":   {head + second + "\x81\x08", fault(api.ErrLong, 3, 0)},
		"no plan in list 3":    {head + second + "\x01", fault(api.ErrShort, 3, 1)},
		"behind list 3":        {head + second + "\x00\x80", fault(api.ErrTail, 0, 0)},
		"no tail":              {head + second + "\x00", fault(api.OK, 0, 0)},
		"a tail of many bytes": {head + second + "\x00" + head + second, fault(api.ErrTail, 0, 0)},
	} {
		if f := expectSame(t, what, []byte(r.b)); f != r.want {
			t.Errorf("%s: the second reading says %v, not %v", what, f, r.want)
		}
	}
}

// P16.3, P7: there and back, and there again.
func TestThereAndBack(t *testing.T) {
	for _, n := range allCerts() {
		b, f := seal.Encode(n.c)
		if f != (api.Fault{}) {
			t.Errorf("%s: %v", n.name, f)
		}
		c, f := seal.Decode(b)
		if f != (api.Fault{}) || !sameCert(c, n.c) {
			t.Errorf("%s: another certificate: %v", n.name, f)
		}
		again, f := seal.Encode(c)
		if f != (api.Fault{}) || !bytes.Equal(again, b) {
			t.Errorf("%s: other bytes: %v", n.name, f)
		}
	}
}

// P16.3, P7: of certificates of all sorts, by the thousand.
func TestThereAndBackOfAny(t *testing.T) {
	r := rand.New(rand.NewSource(163))
	for range 5000 {
		c := anyCert(r)
		b, f := seal.Encode(c)
		if want := bytesOf(c); f != (api.Fault{}) || !bytes.Equal(b, want) {
			t.Fatalf("%+v: % x, %v, not % x", c, b, f, want)
		}
		if got, f := seal.Decode(b); f != (api.Fault{}) || !sameCert(got, c) {
			t.Fatalf("% x: %+v, %v, not %+v", b, got, f, c)
		}
	}
}

// placeOfEachByte: the number that a byte is of; of the four ahead none.
func placeOfEachByte(c api.Cert) []number {
	all := make([]number, 4)
	for _, n := range numbersOf(c) {
		all = append(all, slices.Repeat([]number{n}, len(n.form()))...)
	}
	return all
}

// P16.4: cut anywhere, with the list and the plan within which the cut is; and
// with a byte more.
func TestCutsAndTails(t *testing.T) {
	for _, n := range smallCerts() {
		b := bytesOf(n.c)
		places := placeOfEachByte(n.c)
		for cut := range b {
			expectFault(t, fmt.Sprint(n.name, ", cut at ", cut), b[:cut], places[cut].fault(api.ErrShort))
		}
		for x := range 256 {
			expectFault(t, n.name+", and a byte", append(bytes.Clone(b), byte(x)), fault(api.ErrTail, 0, 0))
		}
		expectFault(t, n.name+", twice", slices.Concat(b, b), fault(api.ErrTail, 0, 0))
	}
	r := rand.New(rand.NewSource(164))
	for _, n := range greatCerts() {
		b := bytesOf(n.c)
		places := placeOfEachByte(n.c)
		for range 30 {
			cut := r.Intn(len(b))
			expectFault(t, fmt.Sprint(n.name, ", cut at ", cut), b[:cut], places[cut].fault(api.ErrShort))
		}
		expectFault(t, n.name+", the last byte", b[:len(b)-1], places[len(b)-1].fault(api.ErrShort))
		expectFault(t, n.name+", and a byte", append(b, 0), fault(api.ErrTail, 0, 0))
	}
}

func everyByte() []byte {
	all := make([]byte, 256)
	for i := range all {
		all[i] = byte(i)
	}
	return all
}

// P1, P16.2, P16.3: every byte of a certificate turned, to every other.
func TestEachByteTurned(t *testing.T) {
	for _, n := range smallCerts() {
		b := bytesOf(n.c)
		to := everyByte()
		if len(b) > 120 {
			to = []byte{0, 1, 2, 3, 64, 65, 66, 0x7f, 0x80, 0xff}
		}
		for at := range b {
			for _, x := range to {
				turned := bytes.Clone(b)
				turned[at] = x
				expectSame(t, n.name, turned)
			}
		}
	}
}

// P1, P16.2: random bytes, also such that begin as a certificate does.
func TestRandomBytes(t *testing.T) {
	r := rand.New(rand.NewSource(162))
	starts := []string{"", "SWC", "SWC1", "SWC1", "SWC1\x00", "SWC1\x01", "SWC1\x01\x00\x14\x01", "SWC1\x00\x02\x00", "SWC1\x00\x02\x01\x10\x02", "SWC1\x02\x00\x14\x25\x3e\x01\x01\x10"}
	met := map[api.Errno]int{}
	for range 60000 {
		b := []byte(anyOf(r, starts...))
		for range r.Intn(50) {
			b = append(b, anyOf(r, 0, 0, 0, 0, 1, 1, 2, 3, 16, 32, 65, 66, 0x7f, 0x80, 0xff, byte(r.Intn(256))))
		}
		met[expectSame(t, "random bytes", b).Err]++
		if t.Failed() {
			t.Fatalf("% x", b)
		}
	}
	for _, e := range []api.Errno{api.OK, api.ErrShort, api.ErrForm, api.ErrLong, api.ErrTail} {
		if met[e] < 20 {
			t.Errorf("%v: %d times", e, met[e])
		}
	}
}

// disturb turns, adds or takes away bytes.
func disturb(r *rand.Rand, b []byte) []byte {
	if len(b) == 0 {
		return b
	}
	at, x := r.Intn(len(b)), anyOf(r, 0, 1, 2, 0x7f, 0x80, 0xff, byte(r.Intn(256)))
	switch r.Intn(4) {
	case 0:
		return slices.Insert(b, at, x)
	case 1:
		return slices.Delete(b, at, min(at+1+r.Intn(2), len(b)))
	case 2:
		return append(b, x)
	}
	b[at] = x
	return b
}

// P1, P16.2, P16.3: certificates whose bytes are disturbed here and there.
func TestDisturbedBytes(t *testing.T) {
	r := rand.New(rand.NewSource(165))
	for range 20000 {
		b := bytesOf(anyCert(r))
		for range 1 + r.Intn(3) {
			b = disturb(r, b)
		}
		expectSame(t, "disturbed bytes", b)
		if t.Failed() {
			t.Fatalf("% x", b)
		}
	}
}

package seal_test

import (
	"bytes"
	"math"
	"math/big"
	"slices"

	"spillway/api"
)

// What follows reads the chapter a second time, in another way: a certificate is
// a list of numbers, each with its place and its sort; forms are quotients by
// 128 in whole numbers without end; all faults of a certificate are gathered,
// back to front, and the one of the lowest rank is taken; and the decoder goes
// on behind a fault, with nothing, instead of giving up.

// sort says of a number which form it has and what it may come to.
type sort int

const (
	ranges sort = iota // counts, each with its own limit
	lists
	plans
	ofPlan // a Width or a Depth
	end    // of a span
)

func (s sort) hasSign() bool { return s == end }

func (s sort) isCount() bool { return s <= plans }

// ends are the least and the greatest that a number of this sort comes to.
func (s sort) ends() (least, most int64) {
	if s == end {
		return math.MinInt64, math.MaxInt64
	}
	return 0, [...]int64{ranges: 65, lists: 64, plans: 1024, ofPlan: 2147483647}[s]
}

// number is one of a certificate's numbers in the order of its bytes.
type number struct {
	name     string
	op, plan int // within which it stands; 0: none
	sort     sort
	x        int64
}

// numbersOf are the lines of the chapter's table.
func numbersOf(c api.Cert) []number {
	all := []number{{"how many Ranges", 0, 0, ranges, int64(len(c.Ranges))}}
	for _, s := range c.Ranges {
		all = append(all, number{"Ranges' Lo", 0, 0, end, s.Lo}, number{"Ranges' Hi", 0, 0, end, s.Hi})
	}
	all = append(all, number{"how many lists", 0, 0, lists, int64(len(c.Plans))})
	for i, list := range c.Plans {
		op := i + 1
		all = append(all, number{"how many plans", op, 0, plans, int64(len(list))})
		for k, p := range list {
			n := k + 1
			all = append(all,
				number{"Width", op, n, ofPlan, int64(p.Width)}, number{"Depth", op, n, ofPlan, int64(p.Depth)},
				number{"Part's Lo", op, n, end, p.Part.Lo}, number{"Part's Hi", op, n, end, p.Part.Hi},
				number{"Total's Lo", op, n, end, p.Total.Lo}, number{"Total's Hi", op, n, end, p.Total.Hi})
		}
	}
	return all
}

// groupsOf is the form of a number without a sign, of any size.
func groupsOf(x *big.Int) []byte {
	base, rest := big.NewInt(128), new(big.Int).Set(x)
	var form []byte
	for {
		group := new(big.Int)
		rest.QuoRem(rest, base, group)
		if rest.Sign() == 0 {
			return append(form, byte(group.Int64()))
		}
		form = append(form, byte(group.Int64()+128))
	}
}

// formOf is the form of x, with a sign or without one.
func formOf(s sort, x *big.Int) []byte {
	if !s.hasSign() {
		return groupsOf(x)
	}
	two := new(big.Int).Mul(x, big.NewInt(2))
	if x.Sign() < 0 {
		two.Neg(two).Sub(two, big.NewInt(1))
	}
	return groupsOf(two)
}

func (n number) form() []byte { return formOf(n.sort, big.NewInt(n.x)) }

// fault is the error at the number's place.
func (n number) fault(e api.Errno) api.Fault { return api.Fault{Err: e, Op: n.op, Chan: n.plan} }

// formsOf are the pieces that a certificate's bytes are put together from: the
// four bytes ahead, and then the form of each number.
func formsOf(numbers []number) [][]byte {
	pieces := [][]byte{{0x53, 0x57, 0x43, 0x31}}
	for _, n := range numbers {
		pieces = append(pieces, n.form())
	}
	return pieces
}

func bytesOf(c api.Cert) []byte { return slices.Concat(formsOf(numbersOf(c))...) }

// ranked is a fault that applies, and the numbers by which it comes ahead of
// others.
type ranked struct {
	rank  []int
	fault api.Fault
}

// encoded is a second reading of P16.1.
func encoded(c api.Cert) ([]byte, api.Fault) {
	var all []ranked
	for i, list := range slices.Backward(c.Plans) {
		for k, p := range slices.Backward(list) {
			for _, x := range []int{p.Width, p.Depth} {
				if big.NewInt(int64(x)).Sign() < 0 || big.NewInt(int64(x)).BitLen() > 31 {
					all = append(all, ranked{[]int{1, i, 1, k}, api.Fault{Err: 2, Op: i + 1, Chan: k + 1}})
				}
			}
		}
		if len(list) > 1024 {
			all = append(all, ranked{[]int{1, i, 0}, api.Fault{Err: 42, Op: i + 1}})
		}
	}
	if len(c.Ranges) > 65 || len(c.Plans) > 64 {
		all = append(all, ranked{[]int{0}, api.Fault{Err: 42}})
	}
	if len(all) == 0 {
		return bytesOf(c), api.Fault{}
	}
	return nil, slices.MinFunc(all, func(a, b ranked) int { return slices.Compare(a.rank, b.rank) }).fault
}

// scan goes through bytes by the chapters' words, and stays at its first fault.
type scan struct {
	rest     []byte
	op, plan int
	fault    api.Fault
}

func (s *scan) stop(e api.Errno) int64 {
	if s.fault == (api.Fault{}) {
		s.fault = api.Fault{Err: e, Op: s.op, Chan: s.plan}
	}
	return 0
}

// take is the number in front, 0 at a fault and behind one.
func (s *scan) take(what sort) int64 {
	if s.fault != (api.Fault{}) {
		return 0
	}
	last := slices.IndexFunc(s.rest, func(b byte) bool { return b < 128 })
	if last < 0 && len(s.rest) < 10 {
		return s.stop(api.ErrShort)
	}
	if last < 0 || last > 9 || last > 0 && s.rest[last] == 0 {
		return s.stop(api.ErrForm)
	}
	x := new(big.Int)
	for i := last; i >= 0; i-- {
		x.Mul(x, big.NewInt(128)).Add(x, big.NewInt(int64(s.rest[i]%128)))
	}
	if x.BitLen() > 64 {
		return s.stop(api.ErrForm)
	}
	if what.hasSign() {
		if x.Bit(0) == 1 {
			x.Add(x, big.NewInt(1)).Neg(x)
		}
		x.Quo(x, big.NewInt(2))
	}
	if _, most := what.ends(); x.Cmp(big.NewInt(most)) > 0 {
		if what.isCount() {
			return s.stop(api.ErrLong)
		}
		return s.stop(api.ErrForm)
	}
	s.rest = s.rest[last+1:]
	return x.Int64()
}

func (s *scan) putSpan(places ...*api.Span) {
	for _, at := range places {
		at.Lo = s.take(end)
		at.Hi = s.take(end)
	}
}

// decoded is a second reading of P16.2.
func decoded(b []byte) (api.Cert, api.Fault) {
	if len(b) < 4 {
		return api.Cert{}, api.Fault{Err: api.ErrShort}
	}
	if !bytes.Equal(b[:4], []byte{0x53, 0x57, 0x43, 0x31}) {
		return api.Cert{}, api.Fault{Err: api.ErrForm}
	}
	s := scan{rest: b[4:]}
	var c api.Cert
	c.Ranges = make([]api.Span, s.take(ranges))
	for i := range c.Ranges {
		s.putSpan(&c.Ranges[i])
	}
	c.Plans = make([][]api.Chan, s.take(lists))
	for i := range c.Plans {
		s.op, s.plan = i+1, 0
		c.Plans[i] = make([]api.Chan, s.take(plans))
		for k := range c.Plans[i] {
			s.plan = k + 1
			p := &c.Plans[i][k]
			p.Width, p.Depth = int(s.take(ofPlan)), int(s.take(ofPlan))
			s.putSpan(&p.Part, &p.Total)
		}
	}
	s.op, s.plan = 0, 0
	if len(s.rest) > 0 {
		s.stop(api.ErrTail)
	}
	if s.fault != (api.Fault{}) {
		return api.Cert{}, s.fault
	}
	return c, api.Fault{}
}

// sameCert holds two certificates against each other, nil and empty lists being
// one.
func sameCert(a, b api.Cert) bool {
	samePlans := func(x, y []api.Chan) bool { return slices.Equal(x, y) }
	return slices.Equal(a.Ranges, b.Ranges) && slices.EqualFunc(a.Plans, b.Plans, samePlans)
}

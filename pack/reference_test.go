package pack_test

import (
	"bytes"
	"math"
	"math/big"
	"slices"

	"spillway/api"
	"spillway/model"
)

// sort says of a number which form it has and what it may come to.
type sort int

const (
	plain sort = iota // without a sign, up to 2^31 - 1
	ops               // counts, each with its own limit
	weights
	biases
	weight // with a sign, int16
	signed // with a sign, int32
)

func (s sort) hasSign() bool { return s == weight || s == signed }

func (s sort) isCount() bool { return s == ops || s == weights || s == biases }

// ends are the least and the greatest that a number of this sort comes to.
func (s sort) ends() (least, most int64) {
	switch s {
	case ops:
		return 0, 64
	case weights:
		return 0, 131072
	case biases:
		return 0, 1024
	case weight:
		return math.MinInt16, math.MaxInt16
	case signed:
		return math.MinInt32, math.MaxInt32
	}
	return 0, math.MaxInt32
}

// number is one of a model's numbers in the order of its bytes.
type number struct {
	name string
	op   int // within which it stands; 0: none
	sort sort
	x    int64
}

// numbersOf are the lines of the chapter's table.
func numbersOf(m api.Model) []number {
	var all []number
	put := func(op int, s sort, name string, xs ...int) {
		for _, x := range xs {
			all = append(all, number{name, op, s, int64(x)})
		}
	}
	put(0, plain, "In", m.In.H, m.In.W, m.In.C)
	put(0, signed, "Lo, Hi", m.Lo, m.Hi)
	put(0, ops, "how many ops", len(m.Ops))
	for i, op := range m.Ops {
		n := i + 1
		put(n, plain, "Kind, A, B, M", op.Kind, op.A, op.B, op.M)
		put(n, plain, "Win", op.Win.KH, op.Win.KW, op.Win.SH, op.Win.SW, op.Win.Top, op.Win.Left, op.Win.Bottom, op.Win.Right)
		put(n, weights, "how many Weights", len(op.Weights))
		for _, x := range op.Weights {
			put(n, weight, "a weight", int(x))
		}
		put(n, biases, "how many Bias", len(op.Bias))
		for _, x := range op.Bias {
			put(n, signed, "a bias", int(x))
		}
		put(n, plain, "SA, SB", op.SA.Mult, op.SA.Shift, op.SB.Mult, op.SB.Shift)
		put(n, signed, "Zero, Pad, Lo, Hi", op.Zero, op.Pad, op.Lo, op.Hi)
	}
	put(0, plain, "Out", m.Out)
	return all
}

// groupsOf is the form of a number without a sign, by quotients by 128.
func groupsOf(x *big.Int) []byte {
	base, rest := big.NewInt(128), new(big.Int).Set(x)
	var form []byte
	for {
		group := new(big.Int)
		rest.QuoRem(rest, base, group)
		if rest.Sign() == 0 {
			return append(form, byte(group.Int64()))
		}
		form = append(form, byte(group.Int64()+128))
	}
}

// formOf is the form of x, with a sign or without one.
func formOf(s sort, x *big.Int) []byte {
	if !s.hasSign() {
		return groupsOf(x)
	}
	two := new(big.Int).Mul(x, big.NewInt(2))
	if x.Sign() < 0 {
		two.Neg(two).Sub(two, big.NewInt(1))
	}
	return groupsOf(two)
}

func (n number) form() []byte { return formOf(n.sort, big.NewInt(n.x)) }

// formsOf are the pieces that a model's bytes are put together from: the four
// bytes ahead, and then the form of each number.
func formsOf(numbers []number) [][]byte {
	pieces := [][]byte{{0x53, 0x57, 0x4d, 0x31}}
	for _, n := range numbers {
		pieces = append(pieces, n.form())
	}
	return pieces
}

func bytesOf(m api.Model) []byte { return slices.Concat(formsOf(numbersOf(m))...) }

// scan goes through bytes by the chapters' words, and stays at its first fault.
type scan struct {
	rest  []byte
	op    int
	fault api.Fault
}

func (s *scan) stop(e api.Errno) int64 {
	if s.fault == (api.Fault{}) {
		s.fault = api.Fault{Err: e, Op: s.op}
	}
	return 0
}

// take is the number in front, 0 at a fault and behind one.
func (s *scan) take(what sort) int64 {
	if s.fault != (api.Fault{}) {
		return 0
	}
	last := slices.IndexFunc(s.rest, func(b byte) bool { return b < 128 })
	if last < 0 && len(s.rest) < 10 {
		return s.stop(api.ErrShort)
	}
	if last < 0 || last > 9 || last > 0 && s.rest[last] == 0 {
		return s.stop(api.ErrForm)
	}
	x := new(big.Int)
	for i := last; i >= 0; i-- {
		x.Mul(x, big.NewInt(128)).Add(x, big.NewInt(int64(s.rest[i]%128)))
	}
	if x.BitLen() > 64 {
		return s.stop(api.ErrForm)
	}
	if what.hasSign() {
		odd := x.Bit(0) == 1
		if odd {
			x.Add(x, big.NewInt(1)).Neg(x)
		}
		x.Quo(x, big.NewInt(2))
	}
	least, most := what.ends()
	if x.Cmp(big.NewInt(least)) < 0 || x.Cmp(big.NewInt(most)) > 0 {
		if what.isCount() {
			return s.stop(api.ErrLong)
		}
		return s.stop(api.ErrForm)
	}
	s.rest = s.rest[last+1:]
	return x.Int64()
}

func (s *scan) put(what sort, places ...*int) {
	for _, at := range places {
		*at = int(s.take(what))
	}
}

func (s *scan) op1() api.Op {
	var op api.Op
	w := &op.Win
	s.put(plain, &op.Kind, &op.A, &op.B, &op.M)
	s.put(plain, &w.KH, &w.KW, &w.SH, &w.SW, &w.Top, &w.Left, &w.Bottom, &w.Right)
	for range s.take(weights) {
		op.Weights = append(op.Weights, int16(s.take(weight)))
	}
	for range s.take(biases) {
		op.Bias = append(op.Bias, int32(s.take(signed)))
	}
	s.put(plain, &op.SA.Mult, &op.SA.Shift, &op.SB.Mult, &op.SB.Shift)
	s.put(signed, &op.Zero, &op.Pad, &op.Lo, &op.Hi)
	return op
}

// decoded is a second reading of P9.2.
func decoded(b []byte) (api.Model, api.Fault) {
	if len(b) < 4 {
		return api.Model{}, api.Fault{Err: api.ErrShort}
	}
	if !bytes.Equal(b[:4], []byte{0x53, 0x57, 0x4d, 0x31}) {
		return api.Model{}, api.Fault{Err: api.ErrForm}
	}
	s := scan{rest: b[4:]}
	var m api.Model
	s.put(plain, &m.In.H, &m.In.W, &m.In.C)
	s.put(signed, &m.Lo, &m.Hi)
	for i := range s.take(ops) {
		s.op = int(i) + 1
		m.Ops = append(m.Ops, s.op1())
	}
	s.op = 0
	s.put(plain, &m.Out)
	if s.fault == (api.Fault{}) && len(s.rest) > 0 {
		s.stop(api.ErrTail)
	}
	if s.fault == (api.Fault{}) {
		s.fault = model.Check(m)
	}
	if s.fault != (api.Fault{}) {
		return api.Model{}, s.fault
	}
	return m, api.Fault{}
}

// sameModel holds two models against each other, nil and empty lists being one.
func sameModel(a, b api.Model) bool {
	if a.In != b.In || a.Lo != b.Lo || a.Hi != b.Hi || a.Out != b.Out {
		return false
	}
	return slices.EqualFunc(a.Ops, b.Ops, sameOp)
}

func sameOp(a, b api.Op) bool {
	return a.Kind == b.Kind && a.A == b.A && a.B == b.B && a.M == b.M && a.Win == b.Win &&
		slices.Equal(a.Weights, b.Weights) && slices.Equal(a.Bias, b.Bias) &&
		a.SA == b.SA && a.SB == b.SB && a.Zero == b.Zero && a.Pad == b.Pad && a.Lo == b.Lo && a.Hi == b.Hi
}

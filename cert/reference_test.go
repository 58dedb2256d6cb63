package cert_test

import (
	"fmt"
	"math/big"
	"slices"

	"spillway/api"
	"spillway/model"
)

// What follows reads the chapter a second time, in another way: all faults that
// apply are gathered, back to front, and the one of the lowest rank is taken;
// certificates are held against each other as texts; and what plans cost is
// counted term by term, with the window slid over the padded plane. Which models
// are well-formed it asks layer 8.

// secondShape is that of a tensor of a well-formed model.
func secondShape(m api.Model, tensor int) api.Shape {
	if tensor == 0 {
		return m.In
	}
	op := m.Ops[tensor-1]
	made := secondShape(m, op.A)
	switch op.Kind {
	case api.Dense:
		return of(1, 1, op.M)
	case api.Conv:
		made.C = op.M
		fallthrough
	case api.Depthwise, api.Average, api.Max:
		made.H = slid(op.Win.Top+made.H+op.Win.Bottom, op.Win.KH, op.Win.SH)
		made.W = slid(op.Win.Left+made.W+op.Win.Right, op.Win.KW, op.Win.SW)
	}
	return made
}

// slid counts where a window stands along a side, its padding counted.
func slid(side, size, step int) int {
	n := 0
	for at := 0; at+size <= side; at += step {
		n++
	}
	return n
}

// secondChannels are how many plans an op's list ought to have.
func secondChannels(m api.Model, op int) int {
	if m.Ops[op-1].Kind > 4 {
		return 0
	}
	return secondShape(m, op).C
}

// secondLength is an op's length; of one that doesn't reduce it is 0.
func secondLength(m api.Model, op int) int {
	o := m.Ops[op-1]
	a := secondShape(m, o.A)
	taps := o.Win.KH * o.Win.KW
	return [9]int{1: a.H * a.W * a.C, 2: taps * a.C, 3: taps, 4: taps}[o.Kind]
}

// ranked is a fault that applies, and the numbers by which it comes ahead of
// others.
type ranked struct {
	rank  []int
	fault api.Fault
}

// foremost is the fault of the lowest rank, or none.
func foremost(all []ranked) api.Fault {
	if len(all) == 0 {
		return api.Fault{}
	}
	return slices.MinFunc(all, func(a, b ranked) int { return slices.Compare(a.rank, b.rank) }).fault
}

// secondForm is what Form ought to answer.
func secondForm(m api.Model, c api.Cert) api.Fault {
	if f := model.Check(m); f != (api.Fault{}) {
		return f
	}
	var all []ranked
	if len(c.Ranges)-1 != len(m.Ops) || len(c.Plans) != len(m.Ops) {
		all = append(all, ranked{[]int{1}, api.Fault{Err: 70}})
	}
	for n, s := range slices.Backward(c.Ranges) {
		if s.Lo > s.Hi || s.Lo < -128 || s.Hi > 127 {
			all = append(all, ranked{[]int{2, n}, api.Fault{Err: 30, Op: n}})
		}
	}
	for i, plans := range slices.Backward(c.Plans) {
		if i < len(m.Ops) && len(plans) != secondChannels(m, i+1) {
			all = append(all, ranked{[]int{3, i, 0}, api.Fault{Err: 70, Op: i + 1}})
		}
		for k, p := range slices.Backward(plans) {
			if p.Part.Lo > p.Part.Hi || p.Total.Lo > p.Total.Hi {
				all = append(all, ranked{[]int{3, i, 1, k}, api.Fault{Err: 30, Op: i + 1, Chan: k + 1}})
			}
		}
	}
	return foremost(all)
}

// secondSame is what Same ought to answer: what two texts tell of nil and of
// empty lists is the same.
func secondSame(a, b api.Cert) bool {
	return fmt.Sprintf("%d %d", a.Ranges, a.Plans) == fmt.Sprintf("%d %d", b.Ranges, b.Plans)
}

// secondBlocks is what Blocks ought to answer.
func secondBlocks(length, depth int) (int, api.Errno) {
	l, d := big.NewInt(int64(length)), big.NewInt(int64(depth))
	if d.Sign() <= 0 || l.Cmp(d) < 0 {
		return 0, 151
	}
	n, rest := new(big.Int).QuoRem(l, d, new(big.Int))
	return int(n.Int64()) + rest.Sign(), 0
}

// secondCost is what Cost ought to answer.
func secondCost(m api.Model, c api.Cert) (api.Track, api.Fault) {
	if f := secondForm(m, c); f != (api.Fault{}) {
		return api.Track{}, f
	}
	var all []ranked
	for i, plans := range slices.Backward(c.Plans) {
		length := secondLength(m, i+1)
		for k, p := range slices.Backward(plans) {
			if !slices.Contains([]int{16, 32}, p.Width) {
				all = append(all, ranked{[]int{i, k, 0}, api.Fault{Err: 150, Op: i + 1, Chan: k + 1}})
			}
			if p.Depth <= 0 || p.Depth > length || p.Width == 32 && p.Depth < length {
				all = append(all, ranked{[]int{i, k, 1}, api.Fault{Err: 151, Op: i + 1, Chan: k + 1}})
			}
		}
	}
	if len(all) > 0 {
		return api.Track{}, foremost(all)
	}
	var t api.Track
	for i, plans := range c.Plans {
		made, length := secondShape(m, i+1), secondLength(m, i+1)
		for range made.H {
			for range made.W {
				for _, p := range plans {
					addUp(&t, p, length)
				}
			}
		}
	}
	return t, api.Fault{}
}

// addUp counts what one sum does, term by term.
func addUp(t *api.Track, p api.Chan, length int) {
	for term := 1; term <= length; term++ {
		if p.Width == 32 {
			t.Muls32++
			t.Adds32++
			continue
		}
		t.Muls16++
		t.Adds16++
		if term%p.Depth == 0 || term == length {
			t.Adds32++
		}
	}
}

package pack

import (
	"bytes"
	"math"

	"spillway/api"
	"spillway/wire"
)

// reader takes a model's parts from the front of bytes. The first fault that it
// meets ends the reading by a panic with an api.Fault, so that no part has to
// ask after each number whether to go on.
type reader struct {
	in *wire.Reader
	op int // within which it is, from 1 on; 0: none
}

// readAll: the model that stands in all of b, well-formed or not.
func readAll(b []byte) api.Model {
	var r reader
	if len(b) < len(mark) {
		r.giveUp(api.ErrShort)
	}
	numbers, marked := bytes.CutPrefix(b, []byte(mark))
	if !marked {
		r.giveUp(api.ErrForm)
	}
	r.in = wire.New(numbers)
	m := r.model()
	r.ask(r.in.End())
	return m
}

// model and the parts within it lean on calls being made in the order in which
// they are written: it is the order of the bytes.
func (r *reader) model() api.Model {
	return api.Model{
		In:  api.Shape{H: r.unsigned(), W: r.unsigned(), C: r.unsigned()},
		Lo:  r.whole(),
		Hi:  r.whole(),
		Ops: r.ops(),
		Out: r.unsigned(),
	}
}

func (r *reader) ops() []api.Op {
	var ops []api.Op
	for i := range r.count(api.MaxOps) {
		r.op = i + 1
		ops = append(ops, r.oneOp())
	}
	r.op = 0
	return ops
}

func (r *reader) oneOp() api.Op {
	return api.Op{
		Kind:    r.unsigned(),
		A:       r.unsigned(),
		B:       r.unsigned(),
		M:       r.unsigned(),
		Win:     r.window(),
		Weights: takeList[int16](r, api.MaxWork),
		Bias:    takeList[int32](r, api.MaxDim),
		SA:      r.scale(),
		SB:      r.scale(),
		Zero:    r.whole(),
		Pad:     r.whole(),
		Lo:      r.whole(),
		Hi:      r.whole(),
	}
}

func (r *reader) window() api.Window {
	return api.Window{
		KH: r.unsigned(), KW: r.unsigned(),
		SH: r.unsigned(), SW: r.unsigned(),
		Top: r.unsigned(), Left: r.unsigned(), Bottom: r.unsigned(), Right: r.unsigned(),
	}
}

func (r *reader) scale() api.Scale {
	return api.Scale{Mult: r.unsigned(), Shift: r.unsigned()}
}

// takeList lets the list grow with the numbers that are there: a count alone
// takes no memory.
func takeList[T listed](r *reader, most int) []T {
	var list []T
	for range r.count(most) {
		list = append(list, signed[T](r))
	}
	return list
}

func (r *reader) count(most int) int {
	n := r.in.N(most)
	r.ask(r.in.Err())
	return n
}

func (r *reader) unsigned() int {
	x := r.in.U()
	r.ask(r.in.Err())
	if x > math.MaxInt32 {
		r.giveUp(api.ErrForm)
	}
	return int(x)
}

// whole: a number with a sign that stands in no list.
func (r *reader) whole() int {
	return int(signed[int32](r))
}

func signed[T listed](r *reader) T {
	x := r.in.S()
	r.ask(r.in.Err())
	if int64(T(x)) != x {
		r.giveUp(api.ErrForm)
	}
	return T(x)
}

func (r *reader) ask(e api.Errno) {
	if e != api.OK {
		r.giveUp(e)
	}
}

func (r *reader) giveUp(e api.Errno) {
	panic(api.Fault{Err: e, Op: r.op})
}

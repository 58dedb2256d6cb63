package pack

import (
	"spillway/api"
	"spillway/wire"
)

// listed are the numbers that an op has lists of.
type listed interface{ int16 | int32 }

// writer puts a model's parts behind one another. Of a well-formed model no
// number but those with a sign is below 0.
type writer struct {
	out []byte
}

func (w *writer) model(m api.Model) {
	w.unsigned(m.In.H, m.In.W, m.In.C)
	w.signed(m.Lo, m.Hi)
	w.unsigned(len(m.Ops))
	for _, op := range m.Ops {
		w.op(op)
	}
	w.unsigned(m.Out)
}

func (w *writer) op(op api.Op) {
	w.unsigned(op.Kind, op.A, op.B, op.M)
	w.window(op.Win)
	putList(w, op.Weights)
	putList(w, op.Bias)
	w.unsigned(op.SA.Mult, op.SA.Shift, op.SB.Mult, op.SB.Shift)
	w.signed(op.Zero, op.Pad, op.Lo, op.Hi)
}

func (w *writer) window(win api.Window) {
	w.unsigned(win.KH, win.KW, win.SH, win.SW)
	w.unsigned(win.Top, win.Left, win.Bottom, win.Right)
}

func putList[T listed](w *writer, list []T) {
	w.unsigned(len(list))
	for _, x := range list {
		w.signed(int(x))
	}
}

// unsigned puts each form by itself behind the others: layer 4 copies the bytes
// that it is handed, and all of them at every number would be too much.
func (w *writer) unsigned(numbers ...int) {
	for _, x := range numbers {
		w.out = append(w.out, wire.PutU(nil, uint64(x))...)
	}
}

func (w *writer) signed(numbers ...int) {
	for _, x := range numbers {
		w.out = append(w.out, wire.PutS(nil, int64(x))...)
	}
}

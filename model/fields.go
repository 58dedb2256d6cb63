package model

import "spillway/api"

// fields says which fields a kind uses beside those that all kinds use.
type fields struct {
	b       bool
	m       bool
	win     bool // its size and its steps
	padding bool // the window's Top, Left, Bottom and Right
	weights bool // Bias, too: no kind uses one of them alone
	sa, sb  bool
	zero    bool
	pad     bool
}

func usedBy(kind int) fields {
	switch kind {
	case api.Dense:
		return fields{m: true, weights: true, sa: true, zero: true}
	case api.Conv:
		return fields{m: true, win: true, padding: true, weights: true, sa: true, zero: true, pad: true}
	case api.Depthwise:
		return fields{win: true, padding: true, weights: true, sa: true, zero: true, pad: true}
	case api.Average, api.Max:
		return fields{win: true}
	case api.Add:
		return fields{b: true, sa: true, sb: true, zero: true}
	case api.Rescale:
		return fields{sa: true, zero: true}
	}
	return fields{}
}

// othersZero: are the fields that the op's kind doesn't use 0, or empty?
func othersZero(op api.Op) bool {
	uses := usedBy(op.Kind)
	return (uses.b || op.B == 0) &&
		(uses.m || op.M == 0) &&
		(uses.win || op.Win == api.Window{}) &&
		(uses.padding || op.Win == withoutPadding(op.Win)) &&
		(uses.weights || len(op.Weights) == 0 && len(op.Bias) == 0) &&
		(uses.sa || op.SA == api.Scale{}) &&
		(uses.sb || op.SB == api.Scale{}) &&
		(uses.zero || op.Zero == 0) &&
		(uses.pad || op.Pad == 0)
}

func withoutPadding(w api.Window) api.Window {
	return api.Window{KH: w.KH, KW: w.KW, SH: w.SH, SW: w.SW}
}

package seal

import (
	"spillway/api"
	"spillway/wire"
)

// writer puts a certificate's parts behind one another. What it is handed as a
// number without a sign isn't below 0.
type writer struct {
	out []byte
}

func (w *writer) cert(c api.Cert) {
	w.unsigned(len(c.Ranges))
	w.spans(c.Ranges...)
	w.unsigned(len(c.Plans))
	for _, plans := range c.Plans {
		w.plans(plans)
	}
}

func (w *writer) plans(plans []api.Chan) {
	w.unsigned(len(plans))
	for _, p := range plans {
		w.unsigned(p.Width)
		w.unsigned(p.Depth)
		w.spans(p.Part, p.Total)
	}
}

func (w *writer) spans(spans ...api.Span) {
	for _, s := range spans {
		w.signed(s.Lo)
		w.signed(s.Hi)
	}
}

// unsigned puts each form by itself behind the others: layer 4 copies the bytes
// that it is handed, and all of them at every number would be too much.
func (w *writer) unsigned(x int) {
	w.out = append(w.out, wire.PutU(nil, uint64(x))...)
}

func (w *writer) signed(x int64) {
	w.out = append(w.out, wire.PutS(nil, x)...)
}

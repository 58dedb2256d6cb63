package seal

import (
	"bytes"

	"spillway/api"
	"spillway/wire"
)

// reader takes a certificate's parts from the front of bytes. The first fault
// that it meets ends the reading by a panic with an api.Fault, so that no part
// has to ask after each number whether to go on.
type reader struct {
	in   *wire.Reader
	list int // within which it is, from 1 on; 0: none
	plan int // of that list, from 1 on; 0: none
}

// readAll: the certificate that stands in all of b.
func readAll(b []byte) api.Cert {
	var r reader
	if len(b) < len(mark) {
		r.giveUp(api.ErrShort)
	}
	numbers, marked := bytes.CutPrefix(b, []byte(mark))
	if !marked {
		r.giveUp(api.ErrForm)
	}
	r.in = wire.New(numbers)
	// The parts lean on calls being made in the order in which they are
	// written: it is the order of the bytes.
	c := api.Cert{Ranges: r.ranges(), Plans: r.lists()}
	r.ask(r.in.End())
	return c
}

// ranges, like every list, grows with what is there: a count alone takes no
// memory.
func (r *reader) ranges() []api.Span {
	var ranges []api.Span
	for range r.count(mostRanges) {
		ranges = append(ranges, r.span())
	}
	return ranges
}

func (r *reader) lists() [][]api.Chan {
	var lists [][]api.Chan
	for i := range r.count(mostLists) {
		r.list = i + 1
		lists = append(lists, r.plans())
	}
	r.list = 0
	return lists
}

func (r *reader) plans() []api.Chan {
	var plans []api.Chan
	for i := range r.count(mostPlans) {
		r.plan = i + 1
		plans = append(plans, r.onePlan())
	}
	r.plan = 0
	return plans
}

func (r *reader) onePlan() api.Chan {
	return api.Chan{Width: r.ofPlan(), Depth: r.ofPlan(), Part: r.span(), Total: r.span()}
}

func (r *reader) span() api.Span {
	return api.Span{Lo: r.signed(), Hi: r.signed()}
}

func (r *reader) count(most int) int {
	n := r.in.N(most)
	r.ask(r.in.Err())
	return n
}

// ofPlan: a Width or a Depth. It isn't a count, which would be ErrLong beyond
// its limit.
func (r *reader) ofPlan() int {
	x := r.in.U()
	r.ask(r.in.Err())
	if x > mostOfPlan {
		r.giveUp(api.ErrForm)
	}
	return int(x)
}

func (r *reader) signed() int64 {
	x := r.in.S()
	r.ask(r.in.Err())
	return x
}

func (r *reader) ask(e api.Errno) {
	if e != api.OK {
		r.giveUp(e)
	}
}

func (r *reader) giveUp(e api.Errno) {
	panic(api.Fault{Err: e, Op: r.list, Chan: r.plan})
}

package lane

import "spillway/api"

// The widths that a register may have.
const (
	narrow = 16
	wide   = 32
)

// refused is the first error of what Dot is handed, or OK.
func refused(weights, numbers, width, depth int) api.Errno {
	if weights != numbers || weights == 0 {
		return api.ErrLens
	}
	if width != narrow && width != wide {
		return api.ErrWidth
	}
	if depth < 1 || depth > weights || width == wide && depth != weights {
		return api.ErrDepth
	}
	return api.OK
}

// spilled goes through the lists block by block, each in a short register of
// its own that is then added to the long one.
func spilled(short, long *tally, register int32, ws []int16, xs []int8, depth int) int32 {
	for len(ws) > 0 {
		block := min(depth, len(ws))
		part := gathered[int16](short, 0, ws[:block], xs[:block])
		register = added(long, register, int32(part))
		ws, xs = ws[block:], xs[block:]
	}
	return register
}

// gathered is a register of T's bits to which the products of both lists, of
// T's bits too, are added one by one.
func gathered[T Narrow](t *tally, register T, ws []int16, xs []int8) T {
	for i, w := range ws {
		register = added(t, register, multiplied(t, T(w), T(xs[i])))
	}
	return register
}

func multiplied[T Narrow](t *tally, a, b T) T {
	product, whole := Mul(a, b)
	t.muls++
	t.note(whole)
	return product
}

func added[T Narrow](t *tally, register, more T) T {
	sum, whole := Add(register, more)
	t.sums = joined(t.sums, reach{1, int(sum), int(sum)})
	t.note(whole)
	return sum
}

// tally is what the registers of one width did.
type tally struct {
	muls, wraps int
	sums        reach
}

func (t *tally) note(whole bool) {
	if !whole {
		t.wraps++
	}
}

// reach is how many sums of one width there were, and the least and the
// greatest that they came to.
type reach struct {
	adds, low, high int
}

// joined is the reach of both. Where there were no sums, low and high tell
// nothing, whatever they are.
func joined(a, b reach) reach {
	switch {
	case a.adds == 0 && b.adds == 0:
		return reach{}
	case a.adds == 0:
		return b
	case b.adds == 0:
		return a
	}
	return reach{a.adds + b.adds, min(a.low, b.low), max(a.high, b.high)}
}

func trackOf(short, long tally) api.Track {
	return api.Track{
		Muls16: short.muls, Adds16: short.sums.adds,
		Muls32: long.muls, Adds32: long.sums.adds,
		Wraps: short.wraps + long.wraps,
		Low16: short.sums.low, High16: short.sums.high,
		Low32: long.sums.low, High32: long.sums.high,
	}
}

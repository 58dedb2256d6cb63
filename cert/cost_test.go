package cert_test

import (
	"fmt"
	"math"
	"math/rand"
	"slices"
	"testing"

	"spillway/api"
	"spillway/cert"
	"spillway/model"
)

func expectCost(t *testing.T, name string, m api.Model, c api.Cert, want api.Track, f api.Fault) {
	t.Helper()
	if got, fault := cert.Cost(m, c); got != want || fault != f {
		t.Errorf("%s: Cost: %+v %v; want %+v %v", name, got, fault, want, f)
	}
}

func expectBlocks(t *testing.T, length, depth, want int, e api.Errno) {
	t.Helper()
	if got, err := cert.Blocks(length, depth); got != want || err != e {
		t.Errorf("Blocks(%d, %d): %d %d; want %d %d", length, depth, got, int(err), want, int(e))
	}
}

// P15.1, P15.4: the chapter's example 1.
func TestExampleOfDense(t *testing.T) {
	m := denseExample()
	expectForm(t, "example 1", m, exampleCert(), api.Fault{})
	if c := exampleCert(); len(c.Ranges) != 2 || len(c.Plans) != 1 || len(c.Plans[0]) != 1 {
		t.Errorf("not two spans and one list of one plan: %v", c)
	}
	for _, r := range []struct {
		width, depth int
		want         api.Track
		f            api.Fault
	}{
		{16, 2, api.Track{Muls16: 2, Adds16: 2, Adds32: 1}, api.Fault{}},
		{16, 1, api.Track{Muls16: 2, Adds16: 2, Adds32: 2}, api.Fault{}},
		{16, 3, api.Track{}, api.Fault{Err: api.ErrDepth, Op: 1, Chan: 1}},
		{32, 2, api.Track{Muls32: 2, Adds32: 2}, api.Fault{}},
	} {
		c := exampleCert()
		c.Plans[0][0].Width, c.Plans[0][0].Depth = r.width, r.depth
		expectCost(t, fmt.Sprint("example 1, ", r.width, r.depth), m, c, r.want, r.f)
	}
}

// P15.3: the chapter's example 2, and more by hand.
func TestBlocksByHand(t *testing.T) {
	const most, least = math.MaxInt, math.MinInt
	expectBlocks(t, 7, 3, 3, api.OK)
	expectBlocks(t, 6, 3, 2, api.OK)
	expectBlocks(t, 5, 6, 0, api.ErrDepth)
	for _, r := range [][3]int{
		{1, 1, 1}, {2, 1, 2}, {2, 2, 1}, {3, 2, 2}, {4, 2, 2}, {5, 2, 3}, {512, 1, 512}, {512, 512, 1}, {512, 511, 2}, {512, 256, 2}, {512, 255, 3}, {512, 257, 2}, {511, 256, 2},
		{most, 1, most}, {most, most, 1}, {most, most - 1, 2}, {most, 2, 1 << 62}, {most, 1 << 62, 2}, {most - 1, 1 << 62, 2}, {1 << 62, 1 << 62, 1}, {1<<62 + 1, 1 << 62, 2},
		{most, 7, most / 7}, {most - 1, 7, most / 7}, {1 << 32, 1<<32 - 1, 2}, {1<<32 + 1, 1 << 32, 2}, {1 << 32, 1, 1 << 32},
	} {
		expectBlocks(t, r[0], r[1], r[2], api.OK)
	}
	for _, r := range [][2]int{
		{1, 0}, {1, 2}, {1, -1}, {0, 0}, {0, 1}, {0, -1}, {-1, -1}, {-1, 0}, {-1, 1}, {-5, -6}, {-6, -5}, {512, 513}, {512, 0}, {512, -512}, {-512, 512}, {512, most}, {512, least},
		{most, 0}, {most, -1}, {most, least}, {most - 1, most}, {least, least}, {least, most}, {least, 1}, {least, -1}, {least, 0}, {0, most}, {0, least}, {5, 1<<32 + 1}, {1 << 32, 1<<33 + 1},
	} {
		expectBlocks(t, r[0], r[1], 0, api.ErrDepth)
	}
}

// P15.3: all small lengths and depths: as many as a list falls into pieces.
func TestBlocksOfSmall(t *testing.T) {
	for length := -5; length <= 130; length++ {
		for depth := -5; depth <= 140; depth++ {
			if depth < 1 || depth > length {
				expectBlocks(t, length, depth, 0, api.ErrDepth)
				continue
			}
			pieces := slices.Collect(slices.Chunk(make([]byte, length), depth))
			expectBlocks(t, length, depth, len(pieces), api.OK)
		}
	}
}

// P15.3: held against whole numbers without end, about powers of two and at any
// numbers.
func TestBlocksSecondReading(t *testing.T) {
	var edges []int
	for shift := range 64 {
		for near := -2; near <= 2; near++ {
			edges = append(edges, 1<<shift+near, -1<<shift+near)
		}
	}
	edges = append(edges, 0, math.MaxInt, math.MinInt, api.MaxReduce-1, api.MaxReduce, api.MaxReduce+1)
	for _, length := range edges {
		for _, depth := range edges {
			want, e := secondBlocks(length, depth)
			expectBlocks(t, length, depth, want, e)
		}
	}
	r := rand.New(rand.NewSource(1530))
	for range 100000 {
		length, depth := int(r.Uint64())>>r.Intn(64), int(r.Uint64())>>r.Intn(64)
		want, e := secondBlocks(length, depth)
		expectBlocks(t, length, depth, want, e)
	}
}

// kindsByHand are the length, the channels and the positions of those of
// oneOfEach that reduce.
func kindsByHand() [][3]int {
	return [][3]int{{24, 3, 1}, {12, 3, 9}, {6, 2, 8}, {4, 2, 6}}
}

// P15.4: each kind by hand: all channels 16 wide with each depth, all 32 wide.
func TestCostOfKinds(t *testing.T) {
	for i, r := range kindsByHand() {
		length, sums := r[0], r[1]*r[2]
		m := star(of(4, 3, 2), oneOfEach()[i])
		name := fmt.Sprint("kind ", i+1)
		all := func(width, depth int) api.Cert {
			return costing(m, func(_, _, _ int) (int, int) { return width, depth })
		}
		for depth := 1; depth <= length; depth++ {
			blocks := length / depth
			if length%depth != 0 {
				blocks++
			}
			expectCost(t, name, m, all(16, depth), api.Track{Muls16: sums * length, Adds16: sums * length, Adds32: sums * blocks}, api.Fault{})
		}
		expectCost(t, name, m, all(32, length), api.Track{Muls32: sums * length, Adds32: sums * length}, api.Fault{})
	}
}

// P15.4: ops that don't reduce cost nothing, nor does a model without ops.
func TestCostOfNothing(t *testing.T) {
	for _, m := range []api.Model{star(of(2, 2, 2)), idle(), chain(of(1, 2, 3), repeated(clamp())...), chain(of(40, 40, 1), greatest(kernel(32, 32, 1, 1)))} {
		expectCost(t, "nothing", m, fitting(m), api.Track{}, api.Fault{})
	}
}

// P15.4: channels of both widths, several ops, ops that don't reduce between
// them, positions under padding: the sums by hand.
func TestCostOfSeveral(t *testing.T) {
	m := everyKind()
	c := fitting(m)
	set := func(op int, plans ...[2]int) {
		for k, p := range plans {
			c.Plans[op-1][k].Width, c.Plans[op-1][k].Depth = p[0], p[1]
		}
	}
	// Length 18 at 20 positions, 4 at 12, 2 at 6, 12 and 4 at 1.
	set(2, [2]int{16, 5}, [2]int{32, 18}, [2]int{16, 18})
	set(4, [2]int{16, 3}, [2]int{16, 1}, [2]int{32, 4})
	set(6, [2]int{32, 2}, [2]int{16, 2}, [2]int{16, 1})
	set(8, [2]int{16, 7}, [2]int{16, 12}, [2]int{16, 11}, [2]int{32, 12})
	set(9, [2]int{32, 4}, [2]int{32, 4})
	narrow := 20*2*18 + 12*2*4 + 6*2*2 + 3*12
	wide := 20*18 + 12*4 + 6*2 + 12 + 2*4
	spilled := 20*(4+1) + 12*(2+4) + 6*(1+2) + (2 + 1 + 2)
	expectCost(t, "several", m, c, api.Track{Muls16: narrow, Adds16: narrow, Muls32: wide, Adds32: wide + spilled}, api.Fault{})
	set(2, [2]int{16, 1}, [2]int{16, 2}, [2]int{16, 17})
	narrow += 20 * 18
	wide -= 20 * 18
	spilled += 20 * (18 + 9 + 2 - 4 - 1)
	expectCost(t, "several, others", m, c, api.Track{Muls16: narrow, Adds16: narrow, Muls32: wide, Adds32: wide + spilled}, api.Fault{})
}

// P15.4: what reduces is all of the model's work, where nothing else is in it.
func TestCostIsWork(t *testing.T) {
	for _, m := range []api.Model{denseExample(), skipping(), mixed(), chain(of(1, 1, 1024), repeated(average(kernel(1, 1, 1, 1)))...), chain(of(8, 8, 8), dense(of(8, 8, 8), 256))} {
		work := 0
		for op := range m.Ops {
			made := secondShape(m, op+1)
			work += made.H * made.W * secondChannels(m, op+1) * secondLength(m, op+1)
		}
		if all, _ := model.Work(m); work > all || work == 0 {
			t.Errorf("%d of %d", work, all)
		}
		wide := costing(m, func(_, _, length int) (int, int) { return 32, length })
		expectCost(t, "wide", m, wide, api.Track{Muls32: work, Adds32: work}, api.Fault{})
		narrow := costing(m, func(_, _, length int) (int, int) { return 16, 1 })
		expectCost(t, "depth 1", m, narrow, api.Track{Muls16: work, Adds16: work, Adds32: work}, api.Fault{})
	}
}

// P15.4: held against the second reading, over all models.
func TestCostSecondReading(t *testing.T) {
	for _, n := range allModels() {
		for _, c := range []api.Cert{
			fitting(n.m),
			costing(n.m, func(_, _, length int) (int, int) { return 16, length }),
			costing(n.m, func(op, ch, length int) (int, int) { return 16, 1 + (7*op+3*ch)%length }),
			costing(n.m, func(_, _, length int) (int, int) { return 32, length }),
			costing(n.m, func(op, ch, length int) (int, int) {
				if (op+ch)%2 == 0 {
					return 32, length
				}
				return 16, (length + 1) / 2
			}),
		} {
			want, f := secondCost(n.m, c)
			if f != (api.Fault{}) {
				t.Fatalf("%s: %v", n.name, f)
			}
			expectCost(t, n.name, n.m, c, want, f)
		}
	}
}

// place is a channel of an op.
type place struct{ op, ch int }

func places(m api.Model) []place {
	var all []place
	for _, op := range reducing(m) {
		for ch := 1; ch <= secondChannels(m, op); ch++ {
			all = append(all, place{op, ch})
		}
	}
	return all
}

func (at place) of(c api.Cert) *api.Chan { return &c.Plans[at.op-1][at.ch-1] }

func (at place) fault(e api.Errno) api.Fault { return api.Fault{Err: e, Op: at.op, Chan: at.ch} }

// P15.4: at each channel of each op, widths that are none, with depths of all
// sorts: the width is told ahead of the depth.
func TestWidths(t *testing.T) {
	for _, m := range []api.Model{denseExample(), everyKind(), mixed()} {
		good := fitting(m)
		for _, at := range places(m) {
			length := secondLength(m, at.op)
			for _, width := range widthsThatAreNone() {
				for _, depth := range []int{1, length, 0, length + 1, -1, math.MinInt, math.MaxInt} {
					c := copied(good)
					at.of(c).Width, at.of(c).Depth = width, depth
					expectForm(t, "width", m, c, api.Fault{})
					expectCost(t, fmt.Sprint("width ", width, " at ", at), m, c, api.Track{}, at.fault(api.ErrWidth))
				}
			}
		}
	}
}

// P15.4: 16 and 32 alone are widths, of all numbers about them and of those that
// differ from them by one bit.
func TestWidthsAlone(t *testing.T) {
	m := denseExample()
	var widths []int
	for width := -1100; width <= 1100; width++ {
		widths = append(widths, width)
	}
	for bit := range 64 {
		widths = append(widths, 16^1<<bit, 32^1<<bit)
	}
	for _, width := range widths {
		c := exampleCert()
		c.Plans[0][0].Width = width
		switch width {
		case 16:
			expectCost(t, "16", m, c, api.Track{Muls16: 2, Adds16: 2, Adds32: 1}, api.Fault{})
		case 32:
			expectCost(t, "32", m, c, api.Track{Muls32: 2, Adds32: 2}, api.Fault{})
		default:
			expectCost(t, fmt.Sprint("width ", width), m, c, api.Track{}, api.Fault{Err: api.ErrWidth, Op: 1, Chan: 1})
		}
	}
}

// P15.4: at each channel of each op, depths at and beyond both ends, with both
// widths.
func TestDepths(t *testing.T) {
	for _, m := range []api.Model{denseExample(), everyKind(), star(of(4, 3, 2), oneOfEach()...), chain(of(8, 8, 8), dense(of(8, 8, 8), 2))} {
		good := fitting(m)
		for _, at := range places(m) {
			length := secondLength(m, at.op)
			for _, depth := range append(farNumbers(), 0, 1, 2, length-1, length, length+1, 2*length, 1<<32+length) {
				for _, width := range []int{16, 32} {
					c := copied(good)
					at.of(c).Width, at.of(c).Depth = width, depth
					expectForm(t, "depth", m, c, api.Fault{})
					name := fmt.Sprint("width ", width, ", depth ", depth, " at ", at, " of length ", length)
					if width == 16 && depth >= 1 && depth <= length || depth == length {
						want, _ := secondCost(m, c)
						expectCost(t, name, m, c, want, api.Fault{})
					} else {
						expectCost(t, name, m, c, api.Track{}, at.fault(api.ErrDepth))
					}
				}
			}
		}
	}
}

// P15.4: a length of 1: a channel of 32 bits has the depth 1, too.
func TestLengthOfOne(t *testing.T) {
	m := chain(of(2, 3, 2), average(kernel(1, 1, 1, 1)))
	c := costing(m, func(_, ch, _ int) (int, int) { return 16 * ch, 1 })
	expectCost(t, "length 1", m, c, api.Track{Muls16: 6, Adds16: 6, Muls32: 6, Adds32: 12}, api.Fault{})
}

// P15.4: the first channel of the first op is told, whichever error it and a
// later one have.
func TestFirstOfCost(t *testing.T) {
	m := everyKind()
	good, all := fitting(m), places(m)
	ways := []struct {
		width, depth int
		e            api.Errno
	}{{8, 1, api.ErrWidth}, {16, 0, api.ErrDepth}, {32, 1, api.ErrDepth}, {0, 0, api.ErrWidth}, {16, 19, api.ErrDepth}}
	for i, first := range all {
		for _, second := range all[i+1:] {
			for _, a := range ways {
				for _, b := range ways {
					c := copied(good)
					first.of(c).Width, first.of(c).Depth = a.width, a.depth
					second.of(c).Width, second.of(c).Depth = b.width, b.depth
					expectCost(t, fmt.Sprint(first, a, second, b), m, c, api.Track{}, first.fault(a.e))
				}
			}
		}
	}
}

// P15.4: Form's fault is told ahead of widths and depths of earlier channels.
func TestFormComesFirst(t *testing.T) {
	m := everyKind()
	none := costing(m, func(_, _, _ int) (int, int) { return 0, 0 })
	last := len(m.Ops)
	for _, r := range []struct {
		do   func(c *api.Cert)
		want api.Fault
	}{
		{func(c *api.Cert) {}, api.Fault{Err: api.ErrWidth, Op: 2, Chan: 1}},
		{func(c *api.Cert) { c.Ranges = c.Ranges[1:] }, api.Fault{Err: api.ErrLens}},
		{func(c *api.Cert) { c.Plans = c.Plans[:last-1] }, api.Fault{Err: api.ErrLens}},
		{func(c *api.Cert) { c.Ranges[last] = span(1, 0) }, api.Fault{Err: api.ErrSpan, Op: last}},
		{func(c *api.Cert) { c.Plans[last-1] = c.Plans[last-1][:1] }, api.Fault{Err: api.ErrLens, Op: last}},
		{func(c *api.Cert) { c.Plans[last-1][1].Part = span(1, 0) }, api.Fault{Err: api.ErrSpan, Op: last, Chan: 2}},
		{func(c *api.Cert) { c.Plans[last-1][1].Total = span(1, 0) }, api.Fault{Err: api.ErrSpan, Op: last, Chan: 2}},
	} {
		expectCost(t, "form first", m, turned(none, r.do), api.Track{}, r.want)
	}
	m.Ops[last-1].Lo = 128
	expectCost(t, "the model first", m, none, api.Track{}, api.Fault{Err: api.ErrRange, Op: last})
}

// P15.4: spans aren't looked at beyond the form: neither ranges nor claims
// change what plans cost.
func TestClaimsCostNothing(t *testing.T) {
	m := everyKind()
	c := fitting(m)
	want, _ := secondCost(m, c)
	for _, s := range validSpans() {
		for _, at := range places(m) {
			other := copied(c)
			at.of(other).Part, at.of(other).Total = s, s
			expectCost(t, "claims", m, other, want, api.Fault{})
		}
	}
	for i, s := range spansOfValues() {
		other := turned(c, func(c *api.Cert) { c.Ranges[i] = s })
		expectCost(t, "ranges", m, other, want, api.Fault{})
	}
}

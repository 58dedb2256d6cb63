package seal_test

import (
	"math"
	"math/rand"
	"slices"

	"spillway/api"
)

const (
	least, most = math.MinInt64, math.MaxInt64
	greatest    = math.MaxInt32 // of a Width or a Depth
)

type named struct {
	name string
	c    api.Cert
}

func span(lo, hi int64) api.Span { return api.Span{Lo: lo, Hi: hi} }

func plan(width, depth int, part, total api.Span) api.Chan {
	return api.Chan{Width: width, Depth: depth, Part: part, Total: total}
}

// example is the certificate of the chapter's example 1, and its bytes.
func example() (api.Cert, []byte) {
	c := api.Cert{
		Ranges: []api.Span{span(0, 10), span(-19, 31)},
		Plans:  [][]api.Chan{{plan(16, 2, span(-20, 30), span(-19, 31))}},
	}
	return c, []byte{0x53, 0x57, 0x43, 0x31, 0x02, 0x00, 0x14, 0x25, 0x3e, 0x01, 0x01, 0x10, 0x02, 0x27, 0x3c, 0x25, 0x3e}
}

// spread is a list of so many plans, no two of which are the same.
func spread(count int) []api.Chan {
	var list []api.Chan
	for i := range count {
		n := int64(i)
		list = append(list, plan(16+i, 300+i, span(-n-1, n+100), span(n*70, -n)))
	}
	return list
}

// spansOf are so many spans, no two of which are the same.
func spansOf(count int) []api.Span {
	var list []api.Span
	for i := range int64(count) {
		list = append(list, span(-128+i, 3*i))
	}
	return list
}

// listsOf are so many lists, of 0, 1, 2, 0, 1, 2 .. plans.
func listsOf(count int) [][]api.Chan {
	var all [][]api.Chan
	for i := range count {
		all = append(all, spread(i%3))
	}
	return all
}

// oddSpans aren't valid, or have ends as far out as an int64 goes.
func oddSpans() []api.Span {
	return []api.Span{
		span(1, 0), span(0, -1), span(127, -128), span(least, most), span(most, least), span(least, least), span(most, most),
		span(least+1, most-1), span(0, least), span(most, 0), span(63, 64), span(-64, -65), span(1<<32, -1<<32), span(1<<62, -1<<62),
	}
}

// oddPlans have each of the odd spans as Part and as Total, and Widths and Depths
// that no checker takes.
func oddPlans() []api.Chan {
	var list []api.Chan
	for i, s := range oddSpans() {
		other := oddSpans()[len(oddSpans())-1-i]
		list = append(list, plan(i, greatest-i, s, other))
	}
	return append(list,
		plan(0, 0, span(0, 0), span(0, 0)), plan(greatest, greatest, span(0, 0), span(0, 0)), plan(127, 128, span(1, 1), span(2, 2)),
		plan(0, greatest, span(0, 0), span(0, 0)), plan(greatest, 0, span(0, 0), span(0, 0)), plan(16383, 16384, span(3, 3), span(4, 4)))
}

// bareCerts have no plan and no range, in each way that a list can have nothing.
func bareCerts() []named {
	return []named{
		{"nothing", api.Cert{}},
		{"empty lists", api.Cert{Ranges: []api.Span{}, Plans: [][]api.Chan{}}},
		{"nil and empty", api.Cert{Plans: [][]api.Chan{}}},
		{"empty and nil", api.Cert{Ranges: []api.Span{}}},
		{"room alone", api.Cert{Ranges: make([]api.Span, 0, 9), Plans: make([][]api.Chan, 0, 9)}},
	}
}

// smallCerts are such as every place of their bytes can be gone through.
func smallCerts() []named {
	c, _ := example()
	all := append(bareCerts(),
		named{"the example", c},
		named{"a list of nothing", api.Cert{Plans: [][]api.Chan{nil}}},
		named{"an empty list of nothing", api.Cert{Plans: [][]api.Chan{{}}}},
		named{"three lists of nothing", api.Cert{Plans: [][]api.Chan{nil, {}, nil}}},
		named{"a range", api.Cert{Ranges: spansOf(1)}},
		named{"ranges", api.Cert{Ranges: spansOf(5)}},
		named{"odd ranges", api.Cert{Ranges: oddSpans()}},
		named{"plans without ranges", api.Cert{Plans: [][]api.Chan{spread(3)}}},
		named{"empty ahead", api.Cert{Ranges: spansOf(3), Plans: [][]api.Chan{nil, {}, spread(2)}}},
		named{"empty between", api.Cert{Ranges: spansOf(4), Plans: [][]api.Chan{spread(1), nil, {}, spread(3)}}},
		named{"empty behind", api.Cert{Ranges: spansOf(2), Plans: [][]api.Chan{spread(2), {}, nil}}},
		named{"empty all about", api.Cert{Ranges: spansOf(6), Plans: [][]api.Chan{{}, spread(1), nil, spread(2), {}, spread(1), nil}}},
		named{"odd plans", api.Cert{Ranges: spansOf(2), Plans: [][]api.Chan{spread(1), oddPlans()}}},
		named{"zeros", api.Cert{Ranges: make([]api.Span, 3), Plans: [][]api.Chan{make([]api.Chan, 2), make([]api.Chan, 1)}}},
	)
	return all
}

// greatCerts reach the limits.
func greatCerts() []named {
	full := make([][]api.Chan, 64)
	for i := range full {
		full[i] = make([]api.Chan, 1024)
		for k := range full[i] {
			full[i][k] = plan(i, k, span(int64(-i), int64(k)), span(int64(k), int64(i)))
		}
	}
	return []named{
		{"65 ranges", api.Cert{Ranges: spansOf(65)}},
		{"64 lists", api.Cert{Plans: listsOf(64)}},
		{"64 lists of nothing", api.Cert{Ranges: spansOf(65), Plans: make([][]api.Chan, 64)}},
		{"1024 plans", api.Cert{Plans: [][]api.Chan{spread(1024)}}},
		{"1024 plans in the last list", api.Cert{Ranges: spansOf(65), Plans: append(listsOf(63), spread(1024))}},
		{"all limits", api.Cert{Ranges: spansOf(65), Plans: full}},
	}
}

func allCerts() []named { return append(smallCerts(), greatCerts()...) }

// copied shares no memory with the certificate.
func copied(c api.Cert) api.Cert {
	c.Ranges = slices.Clone(c.Ranges)
	c.Plans = slices.Clone(c.Plans)
	for i, list := range c.Plans {
		c.Plans[i] = slices.Clone(list)
	}
	return c
}

func anyOf[T any](r *rand.Rand, all ...T) T { return all[r.Intn(len(all))] }

// anyEnd is a number of any length, with either sign.
func anyEnd(r *rand.Rand) int64 {
	x := int64(r.Uint64()) >> r.Intn(64)
	return anyOf(r, x, x, x, 0, -1, 63, 64, -64, -65, least, most)
}

func anySpan(r *rand.Rand) api.Span { return span(anyEnd(r), anyEnd(r)) }

func anyPlan(r *rand.Rand) api.Chan {
	size := func() int { return anyOf(r, 0, 16, 32, 127, 128, greatest, r.Intn(1<<31)>>r.Intn(31)) }
	return plan(size(), size(), anySpan(r), anySpan(r))
}

// anyCert has bytes: a few ranges, lists and plans, seldom as many as there may
// be.
func anyCert(r *rand.Rand) api.Cert {
	var c api.Cert
	for range anyOf(r, 0, 1, 2, r.Intn(6), r.Intn(66)) {
		c.Ranges = append(c.Ranges, anySpan(r))
	}
	for range anyOf(r, 0, 1, 2, r.Intn(5), r.Intn(65)) {
		var list []api.Chan
		for range anyOf(r, 0, 0, 1, 2, r.Intn(5)) {
			list = append(list, anyPlan(r))
		}
		c.Plans = append(c.Plans, list)
	}
	return c
}

// wrongSizes are no Widths and no Depths; of some the low bits are.
func wrongSizes() []int {
	return []int{-1, -2, -16, greatest + 1, greatest + 2, 1<<32 + 16, 1 << 32, -1 << 31, -1 << 32, -1<<32 + 16, math.MinInt, math.MinInt + 16, math.MaxInt, math.MaxInt - 1}
}

func rightSizes() []int {
	return []int{0, 1, 2, 16, 17, 32, 127, 128, 16383, 16384, 1 << 21, 1<<28 - 1, 1 << 28, 1 << 30, greatest - 1, greatest}
}

package lane_test

import (
	"slices"

	"spillway/api"
)

// A second reading of the chapter, in whole numbers: what a register holds is
// found from the sum of all that went into it, not from what it held before.

func isOf(bits uint, x int64) bool {
	half := int64(1) << (bits - 1)
	return -half <= x && x < half
}

// residue is the number of so many bits that differs from x by a multiple of
// 2^bits.
func residue(bits uint, x int64) int64 {
	full := int64(1) << bits
	from0 := (x%full + full) % full
	if from0 >= full/2 {
		return from0 - full
	}
	return from0
}

// residues are those of a list, and how many of them wrap.
func residues(bits uint, list []int64) ([]int64, int) {
	var all []int64
	wraps := 0
	for _, x := range list {
		all = append(all, residue(bits, x))
		if !isOf(bits, x) {
			wraps++
		}
	}
	return all, wraps
}

// heldBy is what a register of so many bits holds behind each number that is
// added to it, and how many of these sums wrap.
func heldBy(bits uint, start int64, list []int64) ([]int64, int) {
	var held []int64
	whole, before, wraps := start, start, 0
	for _, x := range list {
		whole += x
		now := residue(bits, whole)
		if before+x != now {
			wraps++
		}
		held, before = append(held, now), now
	}
	return held, wraps
}

func last(list []int64) int64 { return list[len(list)-1] }

// ends are the least and the greatest of a list, 0 where it has nothing.
func ends(list []int64) (int, int) {
	if len(list) == 0 {
		return 0, 0
	}
	return int(slices.Min(list)), int(slices.Max(list))
}

func products(ws []int16, xs []int8) []int64 {
	var all []int64
	for i := range ws {
		all = append(all, int64(ws[i])*int64(xs[i]))
	}
	return all
}

func secondError(ws []int16, xs []int8, width, depth int) api.Errno {
	length := len(ws)
	if length < 1 || len(xs) != length {
		return api.ErrLens
	}
	switch width {
	case 16:
		if 1 <= depth && depth <= length {
			return api.OK
		}
	case 32:
		if depth == length {
			return api.OK
		}
	default:
		return api.ErrWidth
	}
	return api.ErrDepth
}

func secondDot(ws []int16, xs []int8, width, depth int, bias int32) (int32, api.Track, api.Errno) {
	if e := secondError(ws, xs, width, depth); e != api.OK {
		return 0, api.Track{}, e
	}
	var track api.Track
	kept, wraps := residues(uint(width), products(ws, xs))
	track.Wraps = wraps
	into32 := kept
	if width == 32 {
		track.Muls32 = len(kept)
	} else {
		track.Muls16 = len(kept)
		var sums16 []int64
		into32 = nil
		for block := range slices.Chunk(kept, depth) {
			held, wraps := heldBy(16, 0, block)
			track.Wraps += wraps
			sums16 = append(sums16, held...)
			into32 = append(into32, last(held))
		}
		track.Adds16 = len(sums16)
		track.Low16, track.High16 = ends(sums16)
	}
	sums32, wraps := heldBy(32, int64(bias), into32)
	track.Wraps += wraps
	track.Adds32 = len(sums32)
	track.Low32, track.High32 = ends(sums32)
	return int32(last(sums32)), track, api.OK
}

// secondEnds gathers the ends of those Tracks alone that had sums.
func secondEnds(addsA, lowA, highA, addsB, lowB, highB int) (int, int) {
	var lows, highs []int
	if addsA != 0 {
		lows, highs = append(lows, lowA), append(highs, highA)
	}
	if addsB != 0 {
		lows, highs = append(lows, lowB), append(highs, highB)
	}
	if len(lows) == 0 {
		return 0, 0
	}
	return slices.Min(lows), slices.Max(highs)
}

// turning is the sum of two ints that wraps round.
func turning(a, b int) int { return int(uint(a) + uint(b)) }

func secondJoin(a, b api.Track) api.Track {
	var both api.Track
	both.Muls16, both.Adds16 = turning(a.Muls16, b.Muls16), turning(a.Adds16, b.Adds16)
	both.Muls32, both.Adds32 = turning(a.Muls32, b.Muls32), turning(a.Adds32, b.Adds32)
	both.Wraps = turning(a.Wraps, b.Wraps)
	both.Low16, both.High16 = secondEnds(a.Adds16, a.Low16, a.High16, b.Adds16, b.Low16, b.High16)
	both.Low32, both.High32 = secondEnds(a.Adds32, a.Low32, a.High32, b.Adds32, b.Low32, b.High32)
	return both
}

// fits: are, in whole numbers, all products and all blocks' partial sums int16
// (width 16), and all sums of the register of 32 bits int32?
func fits(ws []int16, xs []int8, width, depth int, bias int32) bool {
	whole, part := int64(bias), int64(0)
	for i, p := range products(ws, xs) {
		whole += p
		if width == 32 {
			if !isOf(32, p) || !isOf(32, whole) {
				return false
			}
			continue
		}
		if i%depth == 0 {
			part = 0
		}
		part += p
		if !isOf(16, p) || !isOf(16, part) {
			return false
		}
		blockEnds := (i+1)%depth == 0 || i+1 == len(ws)
		if blockEnds && !isOf(32, whole) {
			return false
		}
	}
	return true
}

package lane_test

import (
	"math"
	"math/big"
	"math/rand"
	"runtime"
	"slices"
	"sync"
	"testing"

	"spillway/lane"
)

type ownShort int16
type ownWord int32

// edges are the numbers of so many bits at both ends, about 0, about each power
// of two, and about the roots behind which squares leave the register.
func edges(bits uint) []int64 {
	list := []int64{0, 3, 5, 10, 100, 10000, 30000, 181, 182, -181, -182, 46340, 46341, -46340, -46341}
	for shift := range bits {
		power := int64(1) << shift
		list = append(list, power-1, power, power+1, -power-1, -power, -power+1)
	}
	slices.Sort(list)
	return slices.DeleteFunc(slices.Compact(list), func(x int64) bool { return !isOf(bits, x) })
}

// comparePair holds Add and Mul of a type against whole numbers without end.
func comparePair[T lane.Narrow](t *testing.T, bits uint, a, b int64) {
	t.Helper()
	sum, sumWhole := lane.Add(T(a), T(b))
	compareWhole(t, "Add", bits, a, b, int64(sum), sumWhole, new(big.Int).Add(big.NewInt(a), big.NewInt(b)))
	product, productWhole := lane.Mul(T(a), T(b))
	compareWhole(t, "Mul", bits, a, b, int64(product), productWhole, new(big.Int).Mul(big.NewInt(a), big.NewInt(b)))
}

func compareWhole(t *testing.T, name string, bits uint, a, b, got int64, same bool, want *big.Int) {
	t.Helper()
	gap := new(big.Int).Sub(want, big.NewInt(got))
	rest := new(big.Int).Mod(gap, new(big.Int).Lsh(big.NewInt(1), bits))
	if !isOf(bits, got) || rest.Sign() != 0 || same != (gap.Sign() == 0) {
		t.Errorf("%s, %d bits, of %d, %d = %d, %v; in whole numbers %v", name, bits, a, b, got, same, want)
	}
}

func compareAllPairs[T lane.Narrow](t *testing.T, bits uint, list []int64) {
	t.Helper()
	for _, a := range list {
		for _, b := range list {
			comparePair[T](t, bits, a, b)
		}
	}
}

// P20.1: all pairs of the edges, and small numbers of every sign.
func TestPairsOfEdges(t *testing.T) {
	compareAllPairs[int16](t, 16, edges(16))
	compareAllPairs[ownShort](t, 16, edges(16))
	compareAllPairs[int32](t, 32, edges(32))
	compareAllPairs[ownWord](t, 32, edges(32))
	var small []int64
	for x := int64(-20); x <= 20; x++ {
		small = append(small, x)
	}
	compareAllPairs[int16](t, 16, small)
	compareAllPairs[int32](t, 32, small)
}

// P20.1: numbers of all sizes.
func TestPairsAtRandom(t *testing.T) {
	r := rand.New(rand.NewSource(1))
	for range 200000 {
		a, b := int64(r.Uint64())>>r.Intn(64), int64(r.Uint64())>>r.Intn(64)
		comparePair[int16](t, 16, residue(16, a), residue(16, b))
		comparePair[int32](t, 32, residue(32, a), residue(32, b))
		comparePair[ownShort](t, 16, residue(16, a), residue(16, b))
		comparePair[ownWord](t, 32, residue(32, a), residue(32, b))
	}
}

// wrongPartner is a number with which a sum or product of 16 bits isn't what it
// must be, if there is one.
func wrongPartner(a int) (int, bool) {
	for b := math.MinInt16; b <= math.MaxInt16; b++ {
		sum, sumWhole := lane.Add(int16(a), int16(b))
		product, productWhole := lane.Mul(int16(a), int16(b))
		sumGap, productGap := a+b-int(sum), a*b-int(product)
		if sumGap&0xffff != 0 || productGap&0xffff != 0 || sumWhole != (sumGap == 0) || productWhole != (productGap == 0) {
			return b, true
		}
	}
	return 0, false
}

// P20.1: all pairs that there are of 16 bits.
func TestAllPairsOf16Bits(t *testing.T) {
	workers := runtime.GOMAXPROCS(0)
	var group sync.WaitGroup
	for worker := range workers {
		group.Go(func() {
			for a := math.MinInt16 + worker; a <= math.MaxInt16; a += workers {
				if b, found := wrongPartner(a); found {
					t.Errorf("Add or Mul of %d, %d", a, b)
				}
			}
		})
	}
	group.Wait()
}

type pairRow struct {
	a, b         int64
	sum          int64
	sumWhole     bool
	product      int64
	productWhole bool
}

func checkPairRows[T lane.Narrow](t *testing.T, name string, rows []pairRow) {
	t.Helper()
	for _, r := range rows {
		sum, sumWhole := lane.Add(T(r.a), T(r.b))
		product, productWhole := lane.Mul(T(r.a), T(r.b))
		if got := (pairRow{r.a, r.b, int64(sum), sumWhole, int64(product), productWhole}); got != r {
			t.Errorf("%s: %+v; want %+v", name, got, r)
		}
	}
}

// P20.1: both ends, one beyond them, and the chapter's example 1; types of one's
// own answer as those that they are made of.
func TestPairsAtTheEnds(t *testing.T) {
	const low16, high16, low32, high32 = math.MinInt16, math.MaxInt16, math.MinInt32, math.MaxInt32
	rows16 := []pairRow{
		{30000, 10000, -25536, false, -23808, false},
		{300, 127, 427, true, -27436, false},
		{-128, -128, -256, true, 16384, true},
		{0, 0, 0, true, 0, true},
		{high16, 0, high16, true, 0, true},
		{high16, 1, low16, false, high16, true},
		{high16, -1, high16 - 1, true, low16 + 1, true},
		{high16 - 1, 1, high16, true, high16 - 1, true},
		{high16, high16, -2, false, 1, false},
		{low16, 0, low16, true, 0, true},
		{low16, 1, low16 + 1, true, low16, true},
		{low16, -1, high16, false, low16, false},
		{low16 + 1, -1, low16, true, high16, true},
		{low16, low16, 0, false, 0, false},
		{low16, high16, -1, true, low16, false},
		{high16, low16, -1, true, low16, false},
		{256, -128, 128, true, low16, true},
		{-256, -128, -384, true, low16, false},
		{181, 181, 362, true, 32761, true},
		{182, 182, 364, true, -32412, false},
	}
	rows32 := []pairRow{
		{30000, 10000, 40000, true, 300000000, true},
		{high32, 0, high32, true, 0, true},
		{high32, 1, low32, false, high32, true},
		{high32, -1, high32 - 1, true, low32 + 1, true},
		{high32, high32, -2, false, 1, false},
		{low32, 0, low32, true, 0, true},
		{low32, 1, low32 + 1, true, low32, true},
		{low32, -1, high32, false, low32, false},
		{low32, low32, 0, false, 0, false},
		{low32, high32, -1, true, low32, false},
		{low16, low16, -65536, true, 1 << 30, true},
		{-65536, 32768, -32768, true, low32, true},
		{65536, 32768, 98304, true, low32, false},
		{46340, 46340, 92680, true, 2147395600, true},
		{46341, 46341, 92682, true, -2147479015, false},
	}
	checkPairRows[int16](t, "int16", rows16)
	checkPairRows[ownShort](t, "ownShort", rows16)
	checkPairRows[int32](t, "int32", rows32)
	checkPairRows[ownWord](t, "ownWord", rows32)
}

func checkSum[T lane.Narrow](t *testing.T, name string, list []T, want T, wantWraps int) {
	t.Helper()
	if got, wraps := lane.Sum(list); got != want || wraps != wantWraps {
		t.Errorf("%s: Sum of %v = %v, %d; want %v, %d", name, list, got, wraps, want, wantWraps)
	}
}

// P20.2: no numbers, one, sums that wrap up and back down, and the chapter's
// example 1.
func TestSum(t *testing.T) {
	const low16, high16, low32, high32 = math.MinInt16, math.MaxInt16, math.MinInt32, math.MaxInt32
	checkSum[int16](t, "nil", nil, 0, 0)
	checkSum(t, "empty", []int16{}, 0, 0)
	checkSum[int32](t, "nil", nil, 0, 0)
	checkSum(t, "empty", []int32{}, 0, 0)
	checkSum[ownShort](t, "nil", nil, 0, 0)
	checkSum(t, "empty", []ownWord{}, 0, 0)
	checkSum(t, "one", []int16{low16}, low16, 0)
	checkSum(t, "one", []int16{high16}, high16, 0)
	checkSum(t, "one", []int32{low32}, low32, 0)
	checkSum(t, "one", []ownWord{high32}, high32, 0)
	checkSum(t, "the chapter's", []int16{30000, 10000, -10000}, 30000, 2)
	checkSum(t, "the same in 32 bits", []int32{30000, 10000, -10000}, 30000, 0)
	checkSum(t, "in another order", []int16{30000, -10000, 10000}, 30000, 0)
	checkSum(t, "up and down", []int16{high16, 1, -1}, high16, 2)
	checkSum(t, "up and on", []int16{high16, 1, 1}, low16+1, 1)
	checkSum(t, "down and up", []ownShort{low16, -1, 1}, low16, 2)
	checkSum(t, "all the way round", []int16{high16, high16, high16, high16, high16}, high16-4, 2)
	checkSum(t, "least ones", []int16{low16, low16, low16, low16}, 0, 2)
	checkSum(t, "just up to the end", []int32{high32 - 3, 1, 1, 1}, high32, 0)
	checkSum(t, "one more", []int32{high32 - 3, 1, 1, 1, 1}, low32, 1)
	checkSum(t, "down and up", []ownWord{low32, -1, 1, -1}, high32, 3)
	checkSum(t, "both ends", []int32{high32, low32, low32, high32, 1}, -1, 2)
}

func compareSum[T lane.Narrow](t *testing.T, bits uint, list []int64) int {
	t.Helper()
	narrow := make([]T, len(list))
	for i, x := range list {
		narrow[i] = T(x)
	}
	want := int64(0)
	held, wraps := heldBy(bits, 0, list)
	if len(held) > 0 {
		want = last(held)
	}
	checkSum(t, "against whole numbers", narrow, T(want), wraps)
	return wraps
}

// P20.2: all lists of up to four edges that tell, and longer ones at random.
func TestSumAgainstWholeNumbers(t *testing.T) {
	for _, bits := range []uint{16, 32} {
		half := int64(1) << (bits - 1)
		few := []int64{-half, -half + 1, -half / 2, -1, 0, 1, half / 2, half - 2, half - 1}
		lists := [][]int64{nil}
		for from := 0; len(lists[from]) < 4; from++ {
			for _, x := range few {
				lists = append(lists, append(slices.Clone(lists[from]), x))
			}
		}
		for _, list := range lists {
			if bits == 16 {
				compareSum[int16](t, bits, list)
				compareSum[ownShort](t, bits, list)
			} else {
				compareSum[int32](t, bits, list)
				compareSum[ownWord](t, bits, list)
			}
		}
	}
}

func TestSumAtRandom(t *testing.T) {
	r := rand.New(rand.NewSource(2))
	seen := map[bool]int{}
	for range 20000 {
		list := make([]int64, r.Intn(40))
		smaller := r.Intn(16)
		for i := range list {
			list[i] = residue(32, int64(r.Uint64())) >> smaller
		}
		seen[compareSum[int32](t, 32, list) == 0]++
		for i := range list {
			list[i] = residue(16, list[i]) >> smaller
		}
		seen[compareSum[int16](t, 16, list) == 0]++
	}
	if seen[true] < 1000 || seen[false] < 1000 {
		t.Errorf("lists without a wrap and with one: %v", seen)
	}
}

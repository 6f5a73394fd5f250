package mean

import (
	"math"
	"math/big"
	"math/rand"
	"slices"
	"testing"

	"tocsin/api"
	"tocsin/num"
)

const least, greatest = math.MinInt64, math.MaxInt64

var edges = []int64{
	least, least + 1, least + 2, least / 2, -1 << 32, -1000, -3, -2, -1,
	0, 1, 2, 3, 1000, 1 << 32, api.MaxTime, greatest / 2, greatest - 2, greatest - 1, greatest,
}

// anyReading is a reading of any size, now and then one of the edges, and often one that comes again.
func anyReading(r *rand.Rand) int64 {
	switch r.Intn(4) {
	case 0:
		return edges[r.Intn(len(edges))]
	case 1:
		return int64(r.Intn(7) - 3)
	}
	return int64(r.Uint64()) >> r.Intn(64)
}

func anyReadings(r *rand.Rand, n int) []int64 {
	l := make([]int64, n)
	for i := range l {
		l[i] = anyReading(r)
	}
	return l
}

// half is the greatest whole number not above the half of the sum, reckoned without any bound.
func half(a, b int64) int64 {
	sum := new(big.Int).Add(big.NewInt(a), big.NewInt(b))
	return sum.Rsh(sum, 1).Int64()
}

// peeled is l without one of its least and one of its greatest.
func peeled(l []int64) []int64 {
	l = slices.Clone(l)
	for _, outer := range []int64{slices.Min(l), slices.Max(l)} {
		at := slices.Index(l, outer)
		l = slices.Delete(l, at, at+1)
	}
	return l
}

func wantTolerant(l []int64) int64 {
	if len(l) > 2 {
		l = peeled(l)
	}
	return half(slices.Min(l), slices.Max(l))
}

func wantMiddle(l []int64) int64 {
	for len(l) > 2 {
		l = peeled(l)
	}
	return half(slices.Min(l), slices.Max(l))
}

func wantSpread(l []int64) uint64 {
	return new(big.Int).Sub(big.NewInt(slices.Max(l)), big.NewInt(slices.Min(l))).Uint64()
}

func checkReadings(t *testing.T, l []int64) {
	t.Helper()
	if got, e := Tolerant(l); got != wantTolerant(l) || e != api.OK {
		t.Fatalf("Tolerant(%d) = %d, %d, want %d", l, got, e, wantTolerant(l))
	}
	if got, e := Middle(l); got != wantMiddle(l) || e != api.OK {
		t.Fatalf("Middle(%d) = %d, %d, want %d", l, got, e, wantMiddle(l))
	}
	if got := Spread(l); got != wantSpread(l) {
		t.Fatalf("Spread(%d) = %d, want %d", l, got, wantSpread(l))
	}
}

func TestOfNoReadingsP31(t *testing.T) {
	for _, l := range [][]int64{nil, {}, make([]int64, 0, 4)} {
		if n, e := Tolerant(l); n != 0 || e != api.ErrNone {
			t.Errorf("Tolerant of none = %d, %d", n, e)
		}
		if n, e := Middle(l); n != 0 || e != api.ErrNone {
			t.Errorf("Middle of none = %d, %d", n, e)
		}
		if n := Spread(l); n != 0 {
			t.Errorf("Spread of none = %d", n)
		}
	}
}

func TestReadingsP31(t *testing.T) {
	for _, c := range []struct {
		l                []int64
		tolerant, middle int64
		spread           uint64
	}{
		{[]int64{0}, 0, 0, 0},
		{[]int64{5}, 5, 5, 0},
		{[]int64{least}, least, least, 0},
		{[]int64{greatest}, greatest, greatest, 0},
		{[]int64{1, 4}, 2, 2, 3},
		{[]int64{4, 1}, 2, 2, 3},
		{[]int64{7, 7}, 7, 7, 0},
		{[]int64{-1, 0}, -1, -1, 1},
		{[]int64{-3, -2}, -3, -3, 1},
		{[]int64{least, greatest}, -1, -1, math.MaxUint64},
		{[]int64{greatest, greatest - 1}, greatest - 1, greatest - 1, 1},
		{[]int64{least, least + 1}, least, least, 1},
		{[]int64{9, 1, 1000}, 9, 9, 999},
		{[]int64{1, 2, 900}, 2, 2, 899},
		{[]int64{5, 5, 900}, 5, 5, 895},
		{[]int64{-900, 5, 5}, 5, 5, 905},
		{[]int64{6, 6, 6}, 6, 6, 0},
		{[]int64{greatest, least, greatest}, greatest, greatest, math.MaxUint64},
		{[]int64{least, greatest, least}, least, least, math.MaxUint64},
		{[]int64{1, 2, 4, 900}, 3, 3, 899},
		{[]int64{900, 1, 4, 1}, 2, 2, 899},
		{[]int64{-4, -3, -2, -1}, -3, -3, 3},
		{[]int64{0, -3, 0, -2}, -1, -1, 3},
		{[]int64{least, greatest, greatest - 2, greatest}, greatest - 1, greatest - 1, math.MaxUint64},
		{[]int64{1, 2, 50, 8, 900}, 26, 8, 899},
		{[]int64{1, 1, 50, 50, 900}, 25, 50, 899},
		{[]int64{900, 900, 1, 2, 3}, 451, 3, 899},
		{[]int64{10, 20, 30, 41, 50, 60}, 35, 35, 50},
		{[]int64{10, 20, 30, 41, 90, 95}, 55, 35, 85},
		{[]int64{100, 0, 1, 2, 3, 4, 5}, 3, 3, 100},
		{[]int64{-1 << 62, 1 << 62, 0}, 0, 0, 1 << 63},
	} {
		if got, e := Tolerant(c.l); got != c.tolerant || e != api.OK {
			t.Errorf("Tolerant(%d) = %d, %d, want %d", c.l, got, e, c.tolerant)
		}
		if got, e := Middle(c.l); got != c.middle || e != api.OK {
			t.Errorf("Middle(%d) = %d, %d, want %d", c.l, got, e, c.middle)
		}
		if got := Spread(c.l); got != c.spread {
			t.Errorf("Spread(%d) = %d, want %d", c.l, got, c.spread)
		}
	}
}

func TestEdgesP31(t *testing.T) {
	for _, a := range edges {
		checkReadings(t, []int64{a})
		for _, b := range edges {
			checkReadings(t, []int64{a, b})
			for _, c := range edges {
				checkReadings(t, []int64{a, b, c})
				checkReadings(t, []int64{a, b, c, a})
			}
		}
	}
}

func TestAnyReadingsP31(t *testing.T) {
	r := rand.New(rand.NewSource(1))
	for range 30000 {
		checkReadings(t, anyReadings(r, 1+r.Intn(12)))
	}
	checkReadings(t, anyReadings(r, 999))
	checkReadings(t, anyReadings(r, 1000))
}

func TestManyReadingsP31(t *testing.T) {
	const n = 70001
	l := make([]int64, n)
	for i := range l {
		l[i] = int64((i*7919 + 13) % n) // each number below n, once
	}
	l[0] = greatest // in 13's place
	if got, e := Tolerant(l); got != half(1, n-1) || e != api.OK {
		t.Errorf("Tolerant of many = %d, %d", got, e)
	}
	if got, e := Middle(l); got != n/2+1 || e != api.OK {
		t.Errorf("Middle of many = %d, %d", got, e)
	}
	if got := Spread(l); got != greatest {
		t.Errorf("Spread of many = %d", got)
	}
}

// TestOneBadOneP32: whatever one reading shows, the mean stays between the others.
func TestOneBadOneP32(t *testing.T) {
	r := rand.New(rand.NewSource(2))
	for range 20000 {
		l := anyReadings(r, 2+r.Intn(8))
		lo, hi := slices.Min(l), slices.Max(l)
		for _, bad := range []int64{least, greatest, anyReading(r)} {
			with := slices.Insert(slices.Clone(l), r.Intn(len(l)+1), bad)
			if n, e := Tolerant(with); n < lo || n > hi || e != api.OK {
				t.Fatalf("Tolerant(%d) = %d, %d, but all but %d lie between %d and %d", with, n, e, bad, lo, hi)
			}
		}
	}
}

func TestBetweenLeastAndGreatestP33(t *testing.T) {
	r := rand.New(rand.NewSource(3))
	for range 20000 {
		l := anyReadings(r, 1+r.Intn(9))
		for _, call := range []func([]int64) (int64, api.Errno){Tolerant, Middle} {
			if n, e := call(l); n < slices.Min(l) || n > slices.Max(l) || e != api.OK {
				t.Fatalf("of %d: %d, %d", l, n, e)
			}
		}
	}
}

// orders calls f with l in each of its orders.
func orders(l []int64, ahead int, f func()) {
	if ahead == len(l) {
		f()
	}
	for i := ahead; i < len(l); i++ {
		l[ahead], l[i] = l[i], l[ahead]
		orders(l, ahead+1, f)
		l[ahead], l[i] = l[i], l[ahead]
	}
}

func TestInAnyOrderP33(t *testing.T) {
	for _, l := range [][]int64{
		{1, 4}, {-3, 0}, {9, 1, 1000}, {5, 5, 900}, {1, 2, 4, 900}, {1, 1, 900, 900}, {1, 2, 50, 8, 900}, {-7, -7, 3, 8, 8},
		{least, least, -1, 0, greatest, greatest}, {10, 20, 30, 41, 90, 95}, {least, -2, -1, 0, 1, 5, greatest},
	} {
		tolerant, e := Tolerant(l)
		middle, f := Middle(l)
		spread := Spread(l)
		orders(l, 0, func() {
			if n, gotErr := Tolerant(l); n != tolerant || gotErr != e {
				t.Fatalf("Tolerant(%d) = %d, in another order %d", l, n, tolerant)
			}
			if n, gotErr := Middle(l); n != middle || gotErr != f {
				t.Fatalf("Middle(%d) = %d, in another order %d", l, n, middle)
			}
			if n := Spread(l); n != spread {
				t.Fatalf("Spread(%d) = %d, in another order %d", l, n, spread)
			}
		})
	}
}

var minusZero = math.Copysign(0, -1)

func TestRatesP31(t *testing.T) {
	const huge, tiny = math.MaxFloat64, math.SmallestNonzeroFloat64
	inf, minusInf, nan := math.Inf(1), math.Inf(-1), math.NaN()
	for _, c := range []struct {
		l    []float64
		want float64
		n    int
	}{
		{nil, 0, 0},
		{[]float64{}, 0, 0},
		{[]float64{nan}, 0, 0},
		{[]float64{inf}, 0, 0},
		{[]float64{minusInf}, 0, 0},
		{[]float64{inf, minusInf, nan, -nan, math.Float64frombits(0xFFF0000000000001), math.Float64frombits(0x7FF0000000000001)}, 0, 0},
		{[]float64{1, nan, 3, inf}, 2, 2},
		{[]float64{minusInf, 1, math.Float64frombits(0xFFFFFFFFFFFFFFFF), -4, inf}, -1.5, 2},
		{[]float64{nan, 7}, 7, 1},
		{[]float64{7, nan}, 7, 1},
		{[]float64{1, 2}, 1.5, 2},
		{[]float64{0.1, 0.2, 0.3}, 0.20000000000000004, 3},
		{[]float64{0.3, 0.2, 0.1}, 0.19999999999999998, 3},
		{[]float64{0}, 0, 1},
		{[]float64{minusZero}, 0, 1},
		{[]float64{minusZero, minusZero}, 0, 2},
		{[]float64{5, -5}, 0, 2},
		{[]float64{-5, 5, minusZero}, 0, 3},
		{[]float64{tiny}, tiny, 1},
		{[]float64{-tiny}, -tiny, 1},
		{[]float64{tiny, 0}, 0, 2},
		{[]float64{-tiny, 0}, minusZero, 2},
		{[]float64{tiny, tiny, tiny, 0}, tiny, 4},
		{[]float64{huge}, huge, 1},
		{[]float64{huge, -huge}, 0, 2},
		{[]float64{huge, huge}, inf, 2},
		{[]float64{-huge, -huge, nan}, minusInf, 2},
		{[]float64{huge, huge, -huge, -huge}, inf, 4},
		{[]float64{-huge, -huge, huge, huge}, minusInf, 4},
		{[]float64{huge, -huge, huge, -huge}, 0, 4},
		{[]float64{1e308, 1e308}, inf, 2},
		{[]float64{1e16, 1, -1e16}, 0, 3},
		{[]float64{1e16, -1e16, 3}, 1, 3},
		{[]float64{1, nan, 1e16, inf, -1e16}, 0, 3},
		{slices.Repeat([]float64{1}, 49), 1, 49},
		{slices.Repeat([]float64{0.1}, 10), 0.09999999999999999, 10},
		{slices.Repeat([]float64{-0.75, nan}, 70000), -0.75, 70000},
	} {
		got, n := Rates(c.l)
		if num.Print(got) != num.Print(c.want) || n != c.n {
			t.Errorf("Rates(%v) = %v, %d, want %v, %d", c.l[:min(len(c.l), 6)], got, n, c.want, c.n)
		}
	}
}

// anyRate is a rate of any size, of any kind.
func anyRate(r *rand.Rand) float64 {
	switch r.Intn(6) {
	case 0:
		return []float64{math.NaN(), math.Inf(1), math.Inf(-1), 0, minusZero, math.MaxFloat64, -math.MaxFloat64}[r.Intn(7)]
	case 1:
		return math.Float64frombits(r.Uint64())
	case 2:
		return math.Float64frombits(r.Uint64() >> 12) // zero or subnormal
	}
	return (r.Float64() - 0.5) * 1000
}

func TestAnyRatesP31(t *testing.T) {
	r := rand.New(rand.NewSource(4))
	for range 50000 {
		var l []float64
		for range r.Intn(10) {
			l = append(l, anyRate(r))
		}
		want, count := 0.0, 0
		for _, x := range l {
			if num.Kind(x) > 1 && num.Kind(x) < 8 {
				want += x
				count++
			}
		}
		if count > 0 {
			want /= float64(count)
		}
		if got, n := Rates(l); num.Print(got) != num.Print(want) || n != count {
			t.Fatalf("Rates(%v) = %v, %d, want %v, %d", l, got, n, want, count)
		}
	}
}

func TestListsAreLeftR3(t *testing.T) {
	whole := []int64{5, -3, greatest, 1, least, 9, 8, 7}
	before := slices.Clone(whole)
	for n := range len(whole) + 1 {
		Tolerant(whole[:n])
		Middle(whole[:n])
		Spread(whole[:n])
		if !slices.Equal(whole, before) {
			t.Fatalf("the readings, with their spare room, were %d and are %d", before, whole)
		}
	}
	rates := []float64{math.NaN(), 3, math.Inf(1), minusZero, -2, 8, math.Inf(-1), 0}
	var bits []string
	for _, x := range rates {
		bits = append(bits, num.Print(x))
	}
	for n := range len(rates) + 1 {
		Rates(rates[:n])
		for i, x := range rates {
			if num.Print(x) != bits[i] {
				t.Fatalf("rate %d, of a list of %d, was %s and is %s", i, n, bits[i], num.Print(x))
			}
		}
	}
}

// TestSameAnswersR2: no call leaves anything behind for the next.
func TestSameAnswersR2(t *testing.T) {
	for range 3 {
		if n, e := Tolerant([]int64{1, 2, 50, 8, 900}); n != 26 || e != api.OK {
			t.Fatal(n, e)
		}
		if n, e := Middle(nil); n != 0 || e != api.ErrNone {
			t.Fatal(n, e)
		}
		if n, e := Middle([]int64{1, 2, 900}); n != 2 || e != api.OK {
			t.Fatal(n, e)
		}
		if x, n := Rates([]float64{math.Inf(-1)}); x != 0 || n != 0 {
			t.Fatal(x, n)
		}
		if x, n := Rates([]float64{3, 5}); x != 4 || n != 2 {
			t.Fatal(x, n)
		}
	}
}

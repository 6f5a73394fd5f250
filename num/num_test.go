package num

import (
	"math"
	"math/big"
	"math/rand"
	"slices"
	"strings"
	"testing"

	"tocsin/api"
)

const theNaN = 0x7FF8000000000001

// rising are the bits of numbers in order, each kind from its first to its last, and their kinds; all NaNs are left out.
var rising = []struct {
	bits uint64
	kind int
}{
	{0xFFF0000000000000, 1},
	{0xFFEFFFFFFFFFFFFF, 2},
	{0xC3E0000000000000, 2}, // -2^63
	{0xC000000000000000, 2}, // -2
	{0xBFF0000000000001, 2},
	{0xBFF0000000000000, 2}, // -1
	{0x8010000000000001, 2},
	{0x8010000000000000, 2},
	{0x800FFFFFFFFFFFFF, 3},
	{0x8008000000000000, 3},
	{0x8000000000000002, 3},
	{0x8000000000000001, 3},
	{0x8000000000000000, 4},
	{0x0000000000000000, 5},
	{0x0000000000000001, 6},
	{0x0000000000000002, 6},
	{0x0008000000000000, 6},
	{0x000FFFFFFFFFFFFF, 6},
	{0x0010000000000000, 7},
	{0x0010000000000001, 7},
	{0x3FF0000000000000, 7}, // 1
	{0x3FF0000000000001, 7},
	{0x4000000000000000, 7}, // 2
	{0x43E0000000000000, 7}, // 2^63
	{0x7FEFFFFFFFFFFFFF, 7},
	{0x7FF0000000000000, 8},
}

var nans = []uint64{
	0x7FF8000000000001, 0x7FF8000000000000, 0x7FF0000000000001, 0x7FF4000000000000, 0x7FF7FFFFFFFFFFFF, 0x7FFFFFFFFFFFFFFF,
	0xFFF8000000000001, 0xFFF8000000000000, 0xFFF0000000000001, 0xFFFFFFFFFFFFFFFF,
}

func of(bits uint64) float64 { return math.Float64frombits(bits) }

func list(bits ...uint64) []float64 {
	var l []float64
	for _, b := range bits {
		l = append(l, of(b))
	}
	return l
}

func bitsOf(l []float64) []uint64 {
	var bits []uint64
	for _, x := range l {
		bits = append(bits, math.Float64bits(x))
	}
	return bits
}

func all() []uint64 {
	var bits []uint64
	for _, r := range rising {
		bits = append(bits, r.bits)
	}
	return append(bits, nans...)
}

// place is where a number stands in order, told by its bits alone.
func place(bits uint64) uint64 {
	switch {
	case bits<<1 > 0x7FF0000000000000<<1:
		return math.MaxUint64
	case bits>>63 == 1:
		return ^bits
	}
	return bits | 1<<63
}

// anyBits are numbers of every size, and now and then one of the edges.
func anyBits(r *rand.Rand) uint64 {
	edges := all()
	switch r.Intn(4) {
	case 0:
		return edges[r.Intn(len(edges))]
	case 1:
		return math.Float64bits(float64(r.Intn(7)-3) / 2)
	}
	return r.Uint64()
}

func isOne(x float64) bool { return math.Float64bits(x) == theNaN }

func same(a, b float64) bool { return math.Float64bits(a) == math.Float64bits(b) }

func TestKindP11(t *testing.T) {
	for _, r := range rising {
		if got := Kind(of(r.bits)); got != r.kind {
			t.Errorf("Kind(%016x) = %d, want %d", r.bits, got, r.kind)
		}
	}
	for _, bits := range nans {
		if got := Kind(of(bits)); got != 9 {
			t.Errorf("Kind(%016x) = %d, want 9", bits, got)
		}
	}
}

func TestOneP11(t *testing.T) {
	for _, r := range rising {
		if got := One(of(r.bits)); math.Float64bits(got) != r.bits {
			t.Errorf("One(%016x) = %016x", r.bits, math.Float64bits(got))
		}
	}
	for _, bits := range nans {
		if got := One(of(bits)); !isOne(got) {
			t.Errorf("One(%016x) = %016x", bits, math.Float64bits(got))
		}
	}
}

func TestCompareP11(t *testing.T) {
	for i, a := range rising {
		for j, b := range rising {
			want := 0
			if i < j {
				want = -1
			} else if i > j {
				want = 1
			}
			if got := Compare(of(a.bits), of(b.bits)); got != want {
				t.Errorf("Compare(%016x, %016x) = %d, want %d", a.bits, b.bits, got, want)
			}
		}
		for _, n := range nans {
			if Compare(of(a.bits), of(n)) != -1 || Compare(of(n), of(a.bits)) != 1 {
				t.Errorf("NaN %016x doesn't stand behind %016x", n, a.bits)
			}
		}
	}
	for _, a := range nans {
		for _, b := range nans {
			if Compare(of(a), of(b)) != 0 {
				t.Errorf("NaNs %016x and %016x aren't alike", a, b)
			}
		}
	}
}

func TestCompareIsATotalOrderP12(t *testing.T) {
	r := rand.New(rand.NewSource(1))
	for range 20000 {
		a, b, c := anyBits(r), anyBits(r), anyBits(r)
		ab, ba := Compare(of(a), of(b)), Compare(of(b), of(a))
		bc, ac := Compare(of(b), of(c)), Compare(of(a), of(c))
		if ab < -1 || ab > 1 || ab != -ba || Compare(of(a), of(a)) != 0 {
			t.Fatalf("%016x %016x: %d and %d", a, b, ab, ba)
		}
		if ab <= 0 && bc <= 0 && ac > 0 || ab == 0 && bc != ac {
			t.Fatalf("%016x %016x %016x: %d %d %d", a, b, c, ab, bc, ac)
		}
		if (ab < 0) != (place(a) < place(b)) || (ab > 0) != (place(a) > place(b)) {
			t.Fatalf("Compare(%016x, %016x) = %d", a, b, ab)
		}
	}
}

func TestLeastAndGreatestP11(t *testing.T) {
	const inf, minusInf, zero, minus, three, tiny = 0x7FF0000000000000, 0xFFF0000000000000, 0, 1 << 63, 0x4008000000000000, 1
	for _, c := range []struct {
		l               []float64
		least, greatest uint64
	}{
		{nil, theNaN, theNaN},
		{[]float64{}, theNaN, theNaN},
		{list(nans...), theNaN, theNaN},
		{list(0xFFF8000000000000), theNaN, theNaN},
		{list(theNaN, three, minus, zero), minus, three},
		{list(zero, minus), minus, zero},
		{list(minus, zero), minus, zero},
		{list(three), three, three},
		{list(three, theNaN), three, three},
		{list(inf, 0x7FF8000000000000), inf, inf},
		{list(0xFFF8000000000000, minusInf), minusInf, minusInf},
		{list(three, inf, theNaN, minusInf, zero), minusInf, inf},
		{list(tiny, zero), zero, tiny},
		{list(minus|tiny, minus), minus | tiny, minus},
		{list(minus|three, minus|tiny), minus | three, minus | tiny},
	} {
		if got := Least(c.l); !same(got, of(c.least)) {
			t.Errorf("Least(%x) = %s, want %016x", bitsOf(c.l), Print(got), c.least)
		}
		if got := Greatest(c.l); !same(got, of(c.greatest)) {
			t.Errorf("Greatest(%x) = %s, want %016x", bitsOf(c.l), Print(got), c.greatest)
		}
	}
}

func TestLeastAndGreatestStandOutermostP11(t *testing.T) {
	r := rand.New(rand.NewSource(2))
	for range 5000 {
		var l, numbers []float64
		for range r.Intn(8) {
			x := of(anyBits(r))
			l = append(l, x)
			if !math.IsNaN(x) {
				numbers = append(numbers, x)
			}
		}
		least, greatest := of(theNaN), of(theNaN)
		for i, x := range numbers {
			if i == 0 || place(math.Float64bits(x)) < place(math.Float64bits(least)) {
				least = x
			}
			if i == 0 || place(math.Float64bits(x)) > place(math.Float64bits(greatest)) {
				greatest = x
			}
		}
		if got := Least(l); !same(got, least) {
			t.Fatalf("Least(%x) = %s, want %s", bitsOf(l), Print(got), Print(least))
		}
		if got := Greatest(l); !same(got, greatest) {
			t.Fatalf("Greatest(%x) = %s, want %s", bitsOf(l), Print(got), Print(greatest))
		}
	}
}

func TestSortP12(t *testing.T) {
	if len(Sort(nil)) != 0 || len(Sort([]float64{})) != 0 {
		t.Error("an empty list isn't sorted to an empty list")
	}
	var want []uint64
	for _, r := range rising {
		want = append(want, r.bits)
	}
	for range nans {
		want = append(want, theNaN)
	}
	r := rand.New(rand.NewSource(3))
	for range 50 {
		shuffled := all()
		r.Shuffle(len(shuffled), func(i, j int) { shuffled[i], shuffled[j] = shuffled[j], shuffled[i] })
		if got := bitsOf(Sort(list(shuffled...))); !slices.Equal(got, want) {
			t.Fatalf("Sort(%x) = %x", shuffled, got)
		}
	}
}

func TestSortRisesAndKeepsEachKindP12(t *testing.T) {
	r := rand.New(rand.NewSource(4))
	for range 2000 {
		var l []float64
		for range r.Intn(40) {
			l = append(l, of(anyBits(r)))
		}
		sorted := Sort(l)
		if !slices.IsSortedFunc(sorted, Compare) {
			t.Fatalf("Sort(%x) = %x doesn't rise", bitsOf(l), bitsOf(sorted))
		}
		count := map[uint64]int{}
		for _, x := range l {
			count[math.Float64bits(One(x))]++
		}
		for _, x := range sorted {
			count[math.Float64bits(x)]--
		}
		for bits, n := range count {
			if n != 0 {
				t.Fatalf("Sort(%x): %016x is there %d times too few", bitsOf(l), bits, n)
			}
		}
	}
}

func TestSumP11(t *testing.T) {
	inf, minus, tiny := math.Inf(1), math.Copysign(0, -1), math.SmallestNonzeroFloat64
	for _, c := range []struct {
		l    []float64
		want float64
	}{
		{nil, 0},
		{[]float64{}, 0},
		{[]float64{minus}, 0},
		{[]float64{minus, minus}, 0},
		{[]float64{1.5}, 1.5},
		{[]float64{1, 2, 3}, 6},
		{[]float64{1, -1}, 0},
		{[]float64{1e308, 1e308, -1e308}, inf},
		{[]float64{-1e308, -1e308, 1e308}, -inf},
		{[]float64{1e308, -1e308, 1e308}, 1e308},
		{[]float64{1 << 53, 1, 1}, 1 << 53},    // each sum is rounded
		{[]float64{1, 1, 1 << 53}, 1<<53 + 2},  // from the front
		{[]float64{1 << 53, 1, -(1 << 53)}, 0}, // no bits are kept aside
		{[]float64{1, 1 << 53, -(1 << 53)}, 0}, // in no other order
		{[]float64{1 << 53, -(1 << 53), 1}, 1}, // as it comes
		{[]float64{1<<53 + 2, 1}, 1<<53 + 4},   // half goes to the even one
		{[]float64{tiny, tiny}, 2 * tiny},      // subnormal numbers are added
		{[]float64{0x1p-1022, -tiny}, of(1<<52 - 1)},
		{[]float64{0.1, 0.2, 0.3}, of(0x3FE3333333333334)},
		{[]float64{inf, 1}, inf},
		{[]float64{1, -inf, 1e308}, -inf},
	} {
		if got := Sum(c.l); !same(got, c.want) {
			t.Errorf("Sum(%v) = %s, want %s", c.l, Print(got), Print(c.want))
		}
	}
	for _, l := range [][]float64{{inf, -inf}, {-inf, 1, inf}, {1e308, 1e308, -inf}, {inf, -inf, 1}} {
		if got := Sum(l); !isOne(got) {
			t.Errorf("Sum(%v) = %016x", l, math.Float64bits(got))
		}
	}
	for _, n := range nans {
		for _, l := range [][]float64{{of(n)}, {of(n), 1}, {1, of(n)}, {inf, of(n), 2}} {
			if got := Sum(l); !isOne(got) {
				t.Errorf("Sum(%x) = %016x", bitsOf(l), math.Float64bits(got))
			}
		}
	}
}

func TestTimesP11(t *testing.T) {
	inf, minus, tiny := math.Inf(1), math.Copysign(0, -1), math.SmallestNonzeroFloat64
	for _, c := range []struct{ a, b, want float64 }{
		{2, 3, 6},
		{-2, 3, -6},
		{-2, -3, 6},
		{0, -1, minus},
		{minus, -1, 0},
		{minus, 0, minus},
		{minus, minus, 0},
		{inf, -2, -inf},
		{-inf, -inf, inf},
		{1e308, 10, inf},
		{-1e308, 10, -inf},
		{math.MaxFloat64, 1, math.MaxFloat64},
		{tiny, 0.5, 0},
		{-tiny, 0.5, minus},
		{tiny, 0.75, tiny},
		{3 * tiny, 0.5, 2 * tiny},
		{0x1p-1022, 0.5, 0x1p-1023},
		{0.1, 3, of(0x3FD3333333333334)},
		{1 + 0x1p-52, 1 + 0x1p-52, 1 + 0x1p-51},
	} {
		if got := Times(c.a, c.b); !same(got, c.want) {
			t.Errorf("Times(%v, %v) = %s, want %s", c.a, c.b, Print(got), Print(c.want))
		}
		if got := Times(c.b, c.a); !same(got, c.want) {
			t.Errorf("Times(%v, %v) = %s, want %s", c.b, c.a, Print(got), Print(c.want))
		}
	}
	for _, c := range [][2]float64{{0, inf}, {-inf, 0}, {minus, inf}} {
		if got := Times(c[0], c[1]); !isOne(got) {
			t.Errorf("Times(%v, %v) = %016x", c[0], c[1], math.Float64bits(got))
		}
	}
	for _, n := range nans {
		for _, x := range []float64{0, 1, -inf, of(n), of(theNaN)} {
			if a, b := Times(of(n), x), Times(x, of(n)); !isOne(a) || !isOne(b) {
				t.Errorf("Times of %016x and %v: %016x, %016x", n, x, math.Float64bits(a), math.Float64bits(b))
			}
		}
	}
}

func TestIntP11(t *testing.T) {
	for _, c := range []struct {
		x    float64
		want int64
	}{
		{0, 0}, {math.Copysign(0, -1), 0}, {math.SmallestNonzeroFloat64, 0}, {-math.SmallestNonzeroFloat64, 0},
		{1, 1}, {-1, -1}, {0.4, 0}, {0.6, 1}, {-0.6, -1}, {2.4, 2}, {2.6, 3}, {-2.4, -2}, {-2.6, -3},
		{0.5, 0}, {-0.5, 0}, {1.5, 2}, {-1.5, -2}, {2.5, 2}, {-2.5, -2}, {3.5, 4}, {-3.5, -4},
		{of(0x3FDFFFFFFFFFFFFF), 0}, {of(0x3FE0000000000001), 1}, // the neighbours of a half
		{1<<52 - 0.5, 1 << 52}, {1<<52 - 1.5, 1<<52 - 2}, {1<<51 + 0.5, 1 << 51}, {1<<51 + 1.5, 1<<51 + 2},
		{1<<53 + 2, 1<<53 + 2}, {1<<62 + 1<<10, 1<<62 + 1<<10},
		{1<<63 - 1<<10, 1<<63 - 1<<10}, {-1 << 63, -1 << 63}, {-(1<<63 - 1<<10), -(1<<63 - 1<<10)},
	} {
		if got, e := Int(c.x); got != c.want || e != api.OK {
			t.Errorf("Int(%v) = %d, %d, want %d", c.x, got, e, c.want)
		}
	}
}

func TestIntRefusesP11(t *testing.T) {
	for _, n := range nans {
		if got, e := Int(of(n)); got != 0 || e != api.ErrNaN {
			t.Errorf("Int(%016x) = %d, %d", n, got, e)
		}
	}
	for _, x := range []float64{math.Inf(1), math.Inf(-1), 1 << 63, -(1<<63 + 1<<11), 9.3e18, -9.3e18, 1 << 64, math.MaxFloat64, -math.MaxFloat64} {
		if got, e := Int(x); got != 0 || e != api.ErrRange {
			t.Errorf("Int(%v) = %d, %d", x, got, e)
		}
	}
}

// nearest reckons the nearest whole number without any bound.
func nearest(x float64) *big.Int {
	doubled := new(big.Rat).Mul(new(big.Rat).SetFloat64(x), big.NewRat(2, 1))
	shifted := new(big.Rat).Add(doubled, big.NewRat(1, 1))
	half := new(big.Rat).Quo(shifted, big.NewRat(2, 1))
	whole := new(big.Int).Div(half.Num(), half.Denom())
	if half.IsInt() && whole.Bit(0) == 1 {
		whole.Sub(whole, big.NewInt(1))
	}
	return whole
}

func TestIntIsTheNearestP11(t *testing.T) {
	r := rand.New(rand.NewSource(5))
	for range 20000 {
		x := math.Ldexp(r.Float64()*2-1, r.Intn(68)-2)
		if r.Intn(3) == 0 {
			x = float64(r.Int63n(1<<53)-1<<52) / 2
		}
		want, wantErr := int64(0), api.ErrRange
		if whole := nearest(x); whole.IsInt64() {
			want, wantErr = whole.Int64(), api.OK
		}
		if got, e := Int(x); got != want || e != wantErr {
			t.Fatalf("Int(%v) = %d, %d, want %d, %d", x, got, e, want, wantErr)
		}
	}
}

func TestPrintP11(t *testing.T) {
	for bits, want := range map[uint64]string{
		0:                  "0000000000000000",
		1:                  "0000000000000001",
		1 << 63:            "8000000000000000",
		0x3FF0000000000000: "3ff0000000000000",
		0x0123456789ABCDEF: "0123456789abcdef",
		0xFEDCBA9876543210: "fedcba9876543210",
		0x7FF0000000000000: "7ff0000000000000",
		0xFFF0000000000000: "fff0000000000000",
	} {
		if got := Print(of(bits)); got != want {
			t.Errorf("Print(%016x) = %q", bits, got)
		}
	}
	for _, n := range nans {
		if got := Print(of(n)); got != "7ff8000000000001" {
			t.Errorf("Print(%016x) = %q", n, got)
		}
	}
}

func TestParseRefusesP11(t *testing.T) {
	wrong := []string{
		"", "0", "1", "000000000000000", "00000000000000000", "3ff000000000000", "3ff00000000000000",
		"3FF0000000000000", "7FF8000000000001", "7ff800000000000A", "NaN", "0x3ff00000000000", "0X00000000000000",
		"+3ff000000000000", "-3ff000000000000", " 3ff000000000000", "3ff000000000000 ", "3ff0000000000000\n", "3ff0_00000000000",
		"ééééééééé", "éééééééé", "\x00\x00\x00\x00\x00\x00\x00\x00\x00\x00\x00\x00\x00\x00\x00\x00", strings.Repeat("\xff", 16), strings.Repeat("0", 1000),
		"7ff8000000000000", "7ff0000000000001", "7fffffffffffffff", "fff8000000000001", "fff8000000000000", "fff0000000000001", "ffffffffffffffff",
	}
	for place := range 16 {
		for _, b := range []byte("/:@AFG`gx._+- \x00\x80") {
			s := []byte("0000000000000000")
			s[place] = b
			wrong = append(wrong, string(s))
		}
	}
	for _, s := range wrong {
		if x, e := Parse(s); e != api.ErrForm || !same(x, 0) {
			t.Errorf("Parse(%q) = %s, %d", s, Print(x), e)
		}
	}
}

func TestThereAndBackP13(t *testing.T) {
	r := rand.New(rand.NewSource(6))
	bits := all()
	for range 5000 {
		bits = append(bits, r.Uint64())
	}
	for _, b := range bits {
		text := Print(of(b))
		x, e := Parse(text)
		if e != api.OK || !same(x, One(of(b))) {
			t.Fatalf("Parse(Print(%016x)) = %016x, %d", b, math.Float64bits(x), e)
		}
		if Print(x) != text {
			t.Fatalf("Print(Parse(%q)) = %q", text, Print(x))
		}
	}
	for _, text := range []string{"0000000000000000", "8000000000000000", "7ff8000000000001", "7ff0000000000000", "0123456789abcdef", "fedcba9876543210"} {
		if x, e := Parse(text); e != api.OK || Print(x) != text {
			t.Errorf("Print(Parse(%q)) = %q, %d", text, Print(x), e)
		}
	}
}

func TestListsStayAsTheyAreR3(t *testing.T) {
	whole := list(0xFFF8000000000000, 0x4008000000000000, 1<<63, 0, 0x7FF4000000000000, 0xC000000000000000, 0x4000000000000000, 0x7FF8000000000000)
	before := bitsOf(whole)
	l := whole[:5]
	sorted := Sort(l)
	if len(sorted) != 5 {
		t.Errorf("Sort answers %d numbers", len(sorted))
	}
	Sum(l)
	Least(l)
	Greatest(l)
	if after := bitsOf(whole); !slices.Equal(after, before) {
		t.Errorf("the list, with its spare room, was %x and is %x", before, after)
	}
}

func TestSortAnswersNewMemoryR3(t *testing.T) {
	for _, bits := range [][]uint64{nil, {0}, {0, 0x4000000000000000}, {0x4000000000000000, 0, 1 << 63, theNaN}} {
		whole := append(list(bits...), 7, 8, 9)
		before := bitsOf(whole)
		l := whole[:len(bits)]
		first, second := Sort(l), Sort(l)
		want := bitsOf(second[:cap(second)])
		spoil(first)
		if !slices.Equal(bitsOf(whole), before) {
			t.Errorf("Sort(%x) shares memory with its argument", bits)
		}
		if !slices.Equal(bitsOf(second[:cap(second)]), want) {
			t.Errorf("two answers of Sort(%x) share memory", bits)
		}
		spoil(second)
		if third := Sort(l); !slices.IsSortedFunc(third, Compare) || slices.Contains(third, 12345) {
			t.Errorf("Sort(%x) keeps its answer", bits)
		}
	}
}

// spoil overwrites a list with its spare room.
func spoil(l []float64) {
	l = l[:cap(l)]
	for i := range l {
		l[i] = 12345
	}
}

// TestSameAnswersR2: what a call answers hangs on its arguments alone.
func TestSameAnswersR2(t *testing.T) {
	bits := all()
	l := list(bits...)
	want := bitsOf(Sort(l))
	least, greatest, sum := Least(l), Greatest(l), Sum(l[12:20])
	for range 3 {
		if !slices.Equal(bitsOf(Sort(l)), want) || !same(Least(l), least) || !same(Greatest(l), greatest) || !same(Sum(l[12:20]), sum) {
			t.Fatal("the same list is answered otherwise")
		}
	}
}

package tick

import (
	"math"
	"math/big"
	"math/rand"
	"slices"
	"strconv"
	"strings"
	"testing"

	"tocsin/api"
)

const least, greatest = math.MinInt64, math.MaxInt64

// edges are counts at which a reckoning may tip over.
var edges = []int64{
	least, least + 1, least + 2, least / 2, least/2 - 1, least/2 + 1,
	-1 << 32, -1<<32 + 1, -1<<32 - 1, -3037000500, -3037000499, -1 << 31, -1000, -7, -3, -2, -1,
	0, 1, 2, 3, 7, 1000, 1 << 31, 3037000499, 3037000500, 1<<32 - 1, 1 << 32, 1<<32 + 1, 1 << 50,
	greatest/2 - 1, greatest / 2, greatest/2 + 1, greatest/2 + 2, greatest - 2, greatest - 1, greatest,
}

// anyCount is a count of any size, and now and then one of the edges.
func anyCount(r *rand.Rand) int64 {
	switch r.Intn(4) {
	case 0:
		return edges[r.Intn(len(edges))]
	case 1:
		return int64(r.Intn(21) - 10)
	}
	return int64(r.Uint64()) >> r.Intn(64)
}

func of(n int64) *big.Int { return big.NewInt(n) }

// want is what a call answers whose result, without any bound, is n.
func want(n *big.Int) (int64, api.Errno) {
	if n.IsInt64() {
		return n.Int64(), api.OK
	}
	return 0, api.ErrRange
}

// floor is the greatest whole number not above n / c.
func floor(n *big.Int, c int64) *big.Int {
	quotient, rest := new(big.Int).QuoRem(n, of(c), new(big.Int))
	if rest.Sign() < 0 {
		quotient.Sub(quotient, of(1))
	}
	return quotient
}

func bigSum(l []int64) *big.Int {
	sum := new(big.Int)
	for _, n := range l {
		sum.Add(sum, of(n))
	}
	return sum
}

func checkPair(t *testing.T, a, b int64) {
	t.Helper()
	for _, c := range []struct {
		name string
		call func(a, b int64) (int64, api.Errno)
		big  *big.Int
	}{
		{"Add", Add, new(big.Int).Add(of(a), of(b))},
		{"Sub", Sub, new(big.Int).Sub(of(a), of(b))},
		{"Mul", Mul, new(big.Int).Mul(of(a), of(b))},
	} {
		got, e := c.call(a, b)
		if n, wantErr := want(c.big); got != n || e != wantErr {
			t.Fatalf("%s(%d, %d) = %d, %d, want %d, %d", c.name, a, b, got, e, n, wantErr)
		}
	}
	if got, n := Half(a, b), floor(new(big.Int).Add(of(a), of(b)), 2); got != n.Int64() {
		t.Fatalf("Half(%d, %d) = %d, want %d", a, b, got, n)
	}
}

func checkMulDiv(t *testing.T, a, b, c int64) {
	t.Helper()
	n, wantErr := int64(0), api.ErrArg
	if c > 0 {
		n, wantErr = want(floor(new(big.Int).Mul(of(a), of(b)), c))
	}
	if got, e := MulDiv(a, b, c); got != n || e != wantErr {
		t.Fatalf("MulDiv(%d, %d, %d) = %d, %d, want %d, %d", a, b, c, got, e, n, wantErr)
	}
}

func TestAddP21(t *testing.T) {
	for _, c := range []struct {
		a, b, want int64
		e          api.Errno
	}{
		{0, 0, 0, api.OK},
		{3, -5, -2, api.OK},
		{greatest, 0, greatest, api.OK},
		{greatest - 1, 1, greatest, api.OK},
		{greatest, 1, 0, api.ErrRange},
		{greatest, greatest, 0, api.ErrRange},
		{greatest, least, -1, api.OK},
		{least, 0, least, api.OK},
		{least + 1, -1, least, api.OK},
		{least, -1, 0, api.ErrRange},
		{least, least, 0, api.ErrRange},
		{1 << 62, 1 << 62, 0, api.ErrRange},
		{-1 << 62, -1 << 62, least, api.OK},
	} {
		if got, e := Add(c.a, c.b); got != c.want || e != c.e {
			t.Errorf("Add(%d, %d) = %d, %d, want %d, %d", c.a, c.b, got, e, c.want, c.e)
		}
		if got, e := Add(c.b, c.a); got != c.want || e != c.e {
			t.Errorf("Add(%d, %d) = %d, %d, want %d, %d", c.b, c.a, got, e, c.want, c.e)
		}
	}
}

func TestSubP21(t *testing.T) {
	for _, c := range []struct {
		a, b, want int64
		e          api.Errno
	}{
		{0, 0, 0, api.OK},
		{3, -5, 8, api.OK},
		{3, 5, -2, api.OK},
		{greatest, greatest, 0, api.OK},
		{least, least, 0, api.OK},
		{greatest, -1, 0, api.ErrRange},
		{greatest - 1, -1, greatest, api.OK},
		{least, 1, 0, api.ErrRange},
		{least + 1, 1, least, api.OK},
		{0, least, 0, api.ErrRange},
		{-1, least, greatest, api.OK},
		{0, greatest, least + 1, api.OK},
		{-1, greatest, least, api.OK},
		{-2, greatest, 0, api.ErrRange},
		{greatest, least, 0, api.ErrRange},
		{least, greatest, 0, api.ErrRange},
	} {
		if got, e := Sub(c.a, c.b); got != c.want || e != c.e {
			t.Errorf("Sub(%d, %d) = %d, %d, want %d, %d", c.a, c.b, got, e, c.want, c.e)
		}
	}
}

func TestMulP21(t *testing.T) {
	for _, c := range []struct {
		a, b, want int64
		e          api.Errno
	}{
		{0, 0, 0, api.OK},
		{3, -5, -15, api.OK},
		{-3, -5, 15, api.OK},
		{0, least, 0, api.OK},
		{0, greatest, 0, api.OK},
		{1, least, least, api.OK},
		{1, greatest, greatest, api.OK},
		{-1, greatest, least + 1, api.OK},
		{-1, least, 0, api.ErrRange},
		{-1, least + 1, greatest, api.OK},
		{2, greatest, 0, api.ErrRange},
		{2, least / 2, least, api.OK},
		{-2, least / 2, 0, api.ErrRange},
		{2, greatest/2 + 1, 0, api.ErrRange},
		{-2, greatest/2 + 1, least, api.OK},
		{1 << 32, 1 << 31, 0, api.ErrRange},
		{-1 << 32, 1 << 31, least, api.OK},
		{1 << 32, 1 << 32, 0, api.ErrRange}, // the lower 64 bits are 0
		{least, least, 0, api.ErrRange},
		{greatest, greatest, 0, api.ErrRange}, // the lower 64 bits are 1
		{3037000499, 3037000499, 9223372030926249001, api.OK},
		{3037000500, 3037000500, 0, api.ErrRange},
	} {
		if got, e := Mul(c.a, c.b); got != c.want || e != c.e {
			t.Errorf("Mul(%d, %d) = %d, %d, want %d, %d", c.a, c.b, got, e, c.want, c.e)
		}
		if got, e := Mul(c.b, c.a); got != c.want || e != c.e {
			t.Errorf("Mul(%d, %d) = %d, %d, want %d, %d", c.b, c.a, got, e, c.want, c.e)
		}
	}
}

func TestMulDivP21(t *testing.T) {
	for _, c := range []struct {
		a, b, c, want int64
		e             api.Errno
	}{
		{7, 1, 2, 3, api.OK},
		{-7, 1, 2, -4, api.OK},
		{7, -1, 2, -4, api.OK},
		{-7, -1, 2, 3, api.OK},
		{-8, 1, 2, -4, api.OK},
		{-1, 1, greatest, -1, api.OK},
		{1, 1, greatest, 0, api.OK},
		{0, least, 1, 0, api.OK},
		{-6, 5, 3, -10, api.OK},
		{1 << 62, 6, 3, 0, api.ErrRange},
		{1 << 62, 4, 8, 1 << 61, api.OK},
		{greatest, greatest, greatest, greatest, api.OK},
		{greatest, greatest, greatest - 1, 0, api.ErrRange},
		{greatest, greatest, 1, 0, api.ErrRange},
		{least, least, greatest, 0, api.ErrRange},
		{least, greatest, greatest, least, api.OK},
		{least, greatest, greatest - 1, 0, api.ErrRange},
		{least, 1, 1, least, api.OK},
		{least, -1, 1, 0, api.ErrRange},
		{least, -1, 2, 1 << 62, api.OK},
		{least, least, 1, 0, api.ErrRange},
		{1 << 62, 4, 2, 0, api.ErrRange},              // 2^63
		{-1 << 62, 4, 2, least, api.OK},               // -2^63
		{greatest, 3, 3, greatest, api.OK},            // the greatest
		{4611686018427387905, 6, 3, 0, api.ErrRange},  // 2^63 + 2
		{6148914691236517205, 3, 2, greatest, api.OK}, // 2^63 - 1/2
		{-6148914691236517205, 3, 2, least, api.OK},   // -2^63 + 1/2
		{-274177, 67280421310721, 2, 0, api.ErrRange}, // -2^63 - 1/2
		{-6148914691236517206, 3, 2, 0, api.ErrRange}, // -2^63 - 1
		{3074457345618258603, 9, 3, 0, api.ErrRange},
		{5, 7, 0, 0, api.ErrArg},
		{0, 0, 0, 0, api.ErrArg},
		{5, 7, -1, 0, api.ErrArg},
		{5, 7, least, 0, api.ErrArg},
		{greatest, greatest, 0, 0, api.ErrArg}, // ErrArg comes ahead of ErrRange
		{least, least, -1, 0, api.ErrArg},
	} {
		if got, e := MulDiv(c.a, c.b, c.c); got != c.want || e != c.e {
			t.Errorf("MulDiv(%d, %d, %d) = %d, %d, want %d, %d", c.a, c.b, c.c, got, e, c.want, c.e)
		}
		if got, e := MulDiv(c.b, c.a, c.c); got != c.want || e != c.e {
			t.Errorf("MulDiv(%d, %d, %d) = %d, %d, want %d, %d", c.b, c.a, c.c, got, e, c.want, c.e)
		}
	}
}

func TestHalfP21(t *testing.T) {
	for _, c := range []struct{ a, b, want int64 }{
		{0, 0, 0},
		{0, 1, 0},
		{-1, 0, -1},
		{-1, -2, -2},
		{-3, 0, -2},
		{3, 0, 1},
		{-3, 4, 0},
		{-4, 3, -1},
		{greatest, greatest - 2, greatest - 1},
		{greatest, greatest, greatest},
		{greatest, greatest - 1, greatest - 1},
		{least, least, least},
		{least, least + 1, least},
		{least, least + 2, least + 1},
		{least, greatest, -1},
		{least, 0, least / 2},
		{greatest, 0, greatest / 2},
		{greatest, 1, 1 << 62},
		{greatest, -1, greatest / 2},
	} {
		if got := Half(c.a, c.b); got != c.want {
			t.Errorf("Half(%d, %d) = %d, want %d", c.a, c.b, got, c.want)
		}
		if got := Half(c.b, c.a); got != c.want {
			t.Errorf("Half(%d, %d) = %d, want %d", c.b, c.a, got, c.want)
		}
	}
}

func TestEdgesP21(t *testing.T) {
	for _, a := range edges {
		for _, b := range edges {
			checkPair(t, a, b)
			for _, c := range edges {
				checkMulDiv(t, a, b, c)
			}
		}
	}
}

func TestAnyCountsP21(t *testing.T) {
	r := rand.New(rand.NewSource(1))
	for range 100000 {
		a, b, c := anyCount(r), anyCount(r), anyCount(r)
		checkPair(t, a, b)
		checkMulDiv(t, a, b, c)
	}
}

func repeated(n int64, times int) []int64 { return slices.Repeat([]int64{n}, times) }

func TestSumP21(t *testing.T) {
	for _, c := range []struct {
		l    []int64
		want int64
		e    api.Errno
	}{
		{nil, 0, api.OK},
		{[]int64{}, 0, api.OK},
		{[]int64{0}, 0, api.OK},
		{[]int64{7}, 7, api.OK},
		{[]int64{least}, least, api.OK},
		{[]int64{greatest}, greatest, api.OK},
		{[]int64{1, 2, -5}, -2, api.OK},
		{[]int64{greatest, 1, -1}, greatest, api.OK},
		{[]int64{greatest, 1}, 0, api.ErrRange},
		{[]int64{least, -1}, 0, api.ErrRange},
		{[]int64{least, -1, 1}, least, api.OK},
		{[]int64{least, least, greatest, greatest, 2}, 0, api.OK},
		{[]int64{least, least}, 0, api.ErrRange}, // -2^64: the lower 64 bits are 0
		{[]int64{greatest, greatest, 2}, 0, api.ErrRange},
		{[]int64{greatest, greatest, least}, greatest - 1, api.OK},
		{append(repeated(greatest, 1000), repeated(-greatest, 1000)...), 0, api.OK},
		{append(repeated(least, 1000), append(repeated(greatest, 1000), 1000)...), 0, api.OK},
		{append(repeated(least, 1000), append(repeated(greatest, 999), 999)...), least, api.OK},
		{append(repeated(least, 1000), append(repeated(greatest, 999), 998)...), 0, api.ErrRange},
		{repeated(greatest, 1000), 0, api.ErrRange},
		{repeated(least, 1000), 0, api.ErrRange},
		{repeated(1, 70000), 70000, api.OK},
		{repeated(-1, 70000), -70000, api.OK},
	} {
		if got, e := Sum(c.l); got != c.want || e != c.e {
			t.Errorf("Sum of %d numbers = %d, %d, want %d, %d", len(c.l), got, e, c.want, c.e)
		}
	}
}

func TestSumOfAnyP21(t *testing.T) {
	r := rand.New(rand.NewSource(2))
	for range 20000 {
		var l []int64
		for range r.Intn(12) {
			l = append(l, anyCount(r))
		}
		got, e := Sum(l)
		if n, wantErr := want(bigSum(l)); got != n || e != wantErr {
			t.Fatalf("Sum(%d) = %d, %d, want %d, %d", l, got, e, n, wantErr)
		}
	}
}

func TestPrintP21(t *testing.T) {
	for n, want := range map[int64]string{
		0:                    "0",
		1:                    "1",
		-1:                   "-1",
		9:                    "9",
		10:                   "10",
		-10:                  "-10",
		99:                   "99",
		100:                  "100",
		1234567890:           "1234567890",
		1000000000000000000:  "1000000000000000000",
		-1000000000000000000: "-1000000000000000000",
		api.MaxTime:          "1125899906842624",
		greatest:             "9223372036854775807",
		least:                "-9223372036854775808",
	} {
		if got := Print(n); got != want {
			t.Errorf("Print = %q, want %q", got, want)
		}
	}
}

func TestParseP21(t *testing.T) {
	for s, want := range map[string]int64{
		"0":                    0,
		"5":                    5,
		"-7":                   -7,
		"10":                   10,
		"-100":                 -100,
		"1000000":              1000000,
		"9223372036854775807":  greatest,
		"-9223372036854775807": least + 1,
		"-9223372036854775808": least,
	} {
		if got, e := Parse(s); got != want || e != api.OK {
			t.Errorf("Parse(%q) = %d, %d", s, got, e)
		}
	}
}

func TestParseRefusesP21(t *testing.T) {
	wrong := []string{
		"", "-", "+", "--1", "-+1", "+-1", "+0", "+1", "-0", "00", "007", "-00", "-007", "0000000000000000000000",
		" ", " 1", "1 ", "- 1", "1\n", "\t1", "1\x00", "\x00", "1.0", "1.", ".1", "1e3", "0x10", "0b1", "0o7", "1_000", "1,000", "1-", "1-2",
		"ten", "NaN", "a", "f", "é", "٣", "１", "−1", "\xff", "1\xff",
		"9223372036854775808", "-9223372036854775809", "10000000000000000000", "-10000000000000000000",
		"18446744073709551615", "18446744073709551616", "18446744073709551617", "-18446744073709551617", "09223372036854775807",
		strings.Repeat("9", 100000), strings.Repeat("0", 100000), "-" + strings.Repeat("1", 100000),
	}
	for b := range 256 {
		if b < '0' || b > '9' {
			wrong = append(wrong, string([]byte{byte(b)}), string([]byte{'1', byte(b)}), string([]byte{'1', byte(b), '1'}))
			if b != '-' {
				wrong = append(wrong, string([]byte{byte(b), '1'}))
			}
		}
	}
	for _, s := range wrong {
		if n, e := Parse(s); n != 0 || e != api.ErrForm {
			t.Errorf("Parse(%q) = %d, %d", s[:min(len(s), 30)], n, e)
		}
	}
}

func TestThereAndBackP21(t *testing.T) {
	r := rand.New(rand.NewSource(3))
	counts := slices.Clone(edges)
	for range 20000 {
		counts = append(counts, anyCount(r))
	}
	for _, n := range counts {
		s := Print(n)
		if want := of(n).String(); s != want {
			t.Fatalf("Print(%d) = %q", n, s)
		}
		if got, e := Parse(s); got != n || e != api.OK {
			t.Fatalf("Parse(%q) = %d, %d", s, got, e)
		}
		for _, longer := range []string{"0" + s, "+" + s, s + " ", s + "."} {
			if got, e := Parse(longer); got != 0 || e != api.ErrForm {
				t.Fatalf("Parse(%q) = %d, %d", longer, got, e)
			}
		}
	}
	for n := int64(-3000); n <= 3000; n++ {
		if got, e := Parse(strconv.FormatInt(n, 10)); got != n || e != api.OK {
			t.Fatalf("Parse of %d = %d, %d", n, got, e)
		}
	}
}

func TestClampP21(t *testing.T) {
	for _, c := range []struct{ n, lo, hi, want int64 }{
		{3, 1, 5, 3},
		{0, 1, 5, 1},
		{9, 1, 5, 5},
		{1, 1, 5, 1},
		{5, 1, 5, 5},
		{-9, -5, -1, -5},
		{0, -5, -1, -1},
		{4, 4, 4, 4},
		{3, 4, 4, 4},
		{5, 4, 4, 4},
		{3, 5, 1, 5}, // where the bounds are crossed, lo is looked at first
		{0, 5, 1, 5},
		{5, 5, 1, 1},
		{9, 5, 1, 1},
		{least, least, greatest, least},
		{greatest, least, greatest, greatest},
		{least, 0, 0, 0},
		{greatest, 0, 0, 0},
		{0, greatest, least, greatest},
		{greatest, greatest, least, least},
		{least, greatest, greatest, greatest},
		{greatest, least, least, least},
	} {
		if got := Clamp(c.n, c.lo, c.hi); got != c.want {
			t.Errorf("Clamp(%d, %d, %d) = %d, want %d", c.n, c.lo, c.hi, got, c.want)
		}
	}
}

// TestNeverWrapsP22: Sub takes Add's answer back, Half lies between both, and MulDiv(a, c, c) is a.
func TestNeverWrapsP22(t *testing.T) {
	check := func(a, b int64) {
		t.Helper()
		if sum, e := Add(a, b); e == api.OK {
			if back, e := Sub(sum, b); back != a || e != api.OK {
				t.Fatalf("Sub(Add(%d, %d), %d) = %d, %d", a, b, b, back, e)
			}
			if (sum < a) != (b < 0) || (sum > a) != (b > 0) {
				t.Fatalf("Add(%d, %d) = %d wraps", a, b, sum)
			}
		}
		if h := Half(a, b); h < min(a, b) || h > max(a, b) {
			t.Fatalf("Half(%d, %d) = %d lies outside", a, b, h)
		}
		if b > 0 {
			if n, e := MulDiv(a, b, b); n != a || e != api.OK {
				t.Fatalf("MulDiv(%d, %d, %d) = %d, %d", a, b, b, n, e)
			}
		}
	}
	for _, a := range edges {
		for _, b := range edges {
			check(a, b)
		}
	}
	r := rand.New(rand.NewSource(4))
	for range 50000 {
		check(anyCount(r), anyCount(r))
	}
}

func TestSumInAnyOrderP22(t *testing.T) {
	r := rand.New(rand.NewSource(5))
	for range 3000 {
		var l []int64
		for range r.Intn(10) {
			l = append(l, anyCount(r))
		}
		n, e := Sum(l)
		for range 5 {
			r.Shuffle(len(l), func(i, j int) { l[i], l[j] = l[j], l[i] })
			if got, gotErr := Sum(l); got != n || gotErr != e {
				t.Fatalf("Sum(%d) = %d, %d, in another order %d, %d", l, got, gotErr, n, e)
			}
		}
	}
}

func TestSumLeavesItsListR3(t *testing.T) {
	whole := []int64{5, -3, greatest, 1, least, 9, 8, 7}
	before := slices.Clone(whole)
	for n := range len(whole) + 1 {
		Sum(whole[:n])
	}
	if !slices.Equal(whole, before) {
		t.Errorf("the list, with its spare room, was %d and is %d", before, whole)
	}
}

// TestSameAnswersR2: a call that gave up leaves nothing behind for the next.
func TestSameAnswersR2(t *testing.T) {
	for range 3 {
		if n, e := Add(greatest, 1); n != 0 || e != api.ErrRange {
			t.Fatal(n, e)
		}
		if n, e := Add(1, 2); n != 3 || e != api.OK {
			t.Fatal(n, e)
		}
		if n, e := MulDiv(1, 1, 0); n != 0 || e != api.ErrArg {
			t.Fatal(n, e)
		}
		if n, e := Sum([]int64{1, 2, 3}); n != 6 || e != api.OK {
			t.Fatal(n, e)
		}
	}
}

// TestOtherPanicsPassOn: only what a reckoning gives up with is an answer.
func TestOtherPanicsPassOn(t *testing.T) {
	defer func() {
		if caught := recover(); caught != "a fault" {
			t.Errorf("what came out is %v", caught)
		}
	}()
	answer(func() wide { panic("a fault") })
}

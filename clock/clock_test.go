package clock

import (
	"fmt"
	"math"
	"math/big"
	"math/rand"
	"testing"

	"tocsin/api"
)

const least, greatest = math.MinInt64, math.MaxInt64

// noTimes, noBases and noRates are none: just beyond the edges, and far away.
var (
	noTimes = []int64{least, -api.MaxTime, -1, api.MaxTime + 1, greatest}
	noBases = []int64{least, -api.MaxTime - 1, api.MaxTime + 1, greatest}
	noRates = []int64{least, -1_000_000_000, -api.MaxRho - 1, api.MaxRho + 1, 1_000_000_000, greatest}
)

var (
	edgeTimes = []int64{0, 1, 999, 1000, 1001, 999_999_999, 1_000_000_000, 1_000_000_001, api.MaxTime - 1, api.MaxTime}
	edgeBases = []int64{-api.MaxTime, -api.MaxTime + 1, -1000, -1, 0, 1, 1000, api.MaxTime - 1, api.MaxTime}
	edgeRates = []int64{-api.MaxRho, -api.MaxRho + 1, -100000, -1000, -1, 0, 1, 1000, 100000, api.MaxRho - 1, api.MaxRho}
)

// model is a clock as the chapter words it, reckoned without any bound.
type model struct {
	mark int64
	base *big.Int
	rate int64
}

func (m model) String() string {
	return fmt.Sprintf("a clock of mark %d, base %d, rate %d", m.mark, m.base, m.rate)
}

// gone is how much more than its base the clock shows, a time behind its mark.
func (m model) gone(t int64) *big.Int {
	d := big.NewInt(t - m.mark)
	drift := new(big.Int).Mul(d, big.NewInt(m.rate))
	drift.Div(drift, big.NewInt(1_000_000_000)) // rounds down, as the divisor is above 0
	return drift.Add(drift, d)
}

func (m model) shows(t int64) *big.Int { return new(big.Int).Add(m.base, m.gone(t)) }

func (m model) tells(t int64) bool { return t >= m.mark && t >= 0 && t <= api.MaxTime }

// when looks for the least time of all, halving.
func (m model) when(shown int64) (int64, api.Errno) {
	enough := func(t int64) bool { return m.shows(t).Cmp(big.NewInt(shown)) >= 0 }
	if !enough(api.MaxTime) {
		return 0, api.ErrNone
	}
	lo, hi := m.mark, int64(api.MaxTime)
	for lo < hi {
		if mid := lo + (hi-lo)/2; enough(mid) {
			hi = mid
		} else {
			lo = mid + 1
		}
	}
	return lo, api.OK
}

func isOf(n int64, l []int64) bool {
	for _, m := range l {
		if n == m {
			return true
		}
	}
	return false
}

// anyFrom is a number from lo to hi, and now and then an edge.
func anyFrom(r *rand.Rand, lo, hi int64, edges []int64) int64 {
	if r.Intn(3) == 0 {
		if n := edges[r.Intn(len(edges))]; n >= lo && n <= hi {
			return n
		}
	}
	n := r.Int63n(hi-lo+1) >> r.Intn(50)
	if r.Intn(2) == 0 {
		return lo + n
	}
	return hi - n
}

func anyRate(r *rand.Rand) int64 { return anyFrom(r, -api.MaxRho, api.MaxRho, edgeRates) }

func anyBase(r *rand.Rand) int64 { return anyFrom(r, -api.MaxTime, api.MaxTime, edgeBases) }

func anyTime(r *rand.Rand, from int64) int64 { return anyFrom(r, from, api.MaxTime, edgeTimes) }

func made(t *testing.T, at, base, rate int64) (*Clock, model) {
	t.Helper()
	c, e := New(at, base, rate)
	if c == nil || e != api.OK {
		t.Fatalf("New(%d, %d, %d) = %v, %d", at, base, rate, c, e)
	}
	return c, model{at, big.NewInt(base), rate}
}

func checkNow(t *testing.T, c *Clock, m model, at int64) {
	t.Helper()
	want, wantErr := int64(0), api.ErrArg
	if m.tells(at) {
		want, wantErr = m.shows(at).Int64(), api.OK
	}
	if got, e := c.Now(at); got != want || e != wantErr {
		t.Fatalf("Now(%d) of %v = %d, %d, want %d, %d", at, m, got, e, want, wantErr)
	}
}

func checkWhen(t *testing.T, c *Clock, m model, shown int64) {
	t.Helper()
	want, wantErr := m.when(shown)
	if got, e := c.When(shown); got != want || e != wantErr {
		t.Fatalf("When(%d) of %v = %d, %d, want %d, %d", shown, m, got, e, want, wantErr)
	}
}

func checkMark(t *testing.T, c *Clock, m model) {
	t.Helper()
	if at, base, rate := c.Mark(); at != m.mark || base != m.base.Int64() || rate != m.rate {
		t.Fatalf("Mark = %d, %d, %d, want %v", at, base, rate, m)
	}
}

// checkClock holds all that a clock tells against the model, at the edges and around what it shows.
func checkClock(t *testing.T, c *Clock, m model) {
	t.Helper()
	checkMark(t, c, m)
	for _, at := range []int64{least, -1, m.mark - 1, m.mark, m.mark + 1, m.mark + 1000, m.mark + 1_000_000_000, api.MaxTime - 1, api.MaxTime, api.MaxTime + 1, greatest} {
		checkNow(t, c, m, at)
		if m.tells(at) {
			shown := m.shows(at).Int64()
			for _, n := range []int64{shown - 2, shown - 1, shown, shown + 1, shown + 2} {
				checkWhen(t, c, m, n)
			}
		}
	}
	for _, shown := range []int64{least, least + 1, -api.MaxTime, -1, 0, 1, api.MaxTime, 1 << 51, 1<<51 + 1<<45, greatest - 1, greatest} {
		checkWhen(t, c, m, shown)
	}
}

func TestExamplesP41(t *testing.T) {
	fast, _ := made(t, 0, 0, 100000)
	slow, _ := made(t, 0, 0, -1)
	for _, c := range []struct {
		clock    *Clock
		at, want int64
	}{
		{fast, 0, 0}, {fast, 1, 1}, {fast, 9999, 9999}, {fast, 10000, 10001}, {fast, 1_000_000_000, 1_000_100_000},
		{slow, 0, 0}, {slow, 1, 0}, {slow, 2, 1}, {slow, 1_000_000_000, 999_999_999}, {slow, 1_000_000_001, 999_999_999},
	} {
		if got, e := c.clock.Now(c.at); got != c.want || e != api.OK {
			t.Errorf("Now(%d) = %d, %d, want %d", c.at, got, e, c.want)
		}
	}
	for _, c := range []struct {
		clock       *Clock
		shown, want int64
	}{
		{slow, 5, 6}, {slow, 1, 2}, {slow, 0, 0}, {slow, -1, 0}, {slow, 999_999_999, 1_000_000_000}, {slow, 1_000_000_000, 1_000_000_002},
		{fast, 9999, 9999}, {fast, 10000, 10000}, {fast, 10001, 10000}, {fast, 10002, 10001}, {fast, 1_000_100_000, 1_000_000_000},
	} {
		if got, e := c.clock.When(c.shown); got != c.want || e != api.OK {
			t.Errorf("When(%d) = %d, %d, want %d", c.shown, got, e, c.want)
		}
	}
}

func TestNewP41(t *testing.T) {
	for _, at := range append(noTimes, edgeTimes...) {
		for _, base := range append(noBases, edgeBases...) {
			for _, rate := range append(noRates, edgeRates...) {
				if isOf(at, noTimes) || isOf(base, noBases) || isOf(rate, noRates) {
					if c, e := New(at, base, rate); c != nil || e != api.ErrArg {
						t.Fatalf("New(%d, %d, %d) = %v, %d", at, base, rate, c, e)
					}
					continue
				}
				c, m := made(t, at, base, rate)
				checkClock(t, c, m)
			}
		}
	}
}

func TestNowRefusesP41(t *testing.T) {
	c, m := made(t, 1000, -5, 7)
	for _, at := range append(noTimes, 0, 1, 999) {
		if n, e := c.Now(at); n != 0 || e != api.ErrArg {
			t.Errorf("Now(%d) = %d, %d", at, n, e)
		}
	}
	checkClock(t, c, m)
}

func TestRateP41(t *testing.T) {
	c, m := made(t, 1000, -5, api.MaxRho)
	for _, at := range append(noTimes, 0, 999) {
		if e := c.Rate(at, 0); e != api.ErrArg {
			t.Errorf("Rate(%d, 0) = %d", at, e)
		}
	}
	for _, rate := range noRates {
		if e := c.Rate(2000, rate); e != api.ErrArg {
			t.Errorf("Rate(2000, %d) = %d", rate, e)
		}
	}
	checkClock(t, c, m)
	for _, step := range []struct{ at, rate, base int64 }{
		{1999, -api.MaxRho, 994}, // what it would gain one nanosecond later is lost
		{1999, 3, 994},
		{1999, -1, 994},
		{2000, 0, 994},
		{3000, api.MaxRho, 1994},
		{4000, 5, 2995},
		{api.MaxTime, -7, api.MaxTime - 4000 + 2995 + 5629499},
	} {
		if e := c.Rate(step.at, step.rate); e != api.OK {
			t.Fatalf("Rate(%d, %d) = %d", step.at, step.rate, e)
		}
		checkClock(t, c, model{step.at, big.NewInt(step.base), step.rate})
	}
}

func TestSetP41(t *testing.T) {
	c, m := made(t, 1000, -5, 99)
	for _, at := range append(noTimes, 0, 999) {
		if e := c.Set(at, 0); e != api.ErrArg {
			t.Errorf("Set(%d, 0) = %d", at, e)
		}
	}
	for _, base := range noBases {
		if e := c.Set(2000, base); e != api.ErrArg {
			t.Errorf("Set(2000, %d) = %d", base, e)
		}
	}
	checkClock(t, c, m)
	for _, step := range []struct{ at, base int64 }{
		{1000, api.MaxTime}, {1000, -api.MaxTime}, {1001, 0}, {5000, 9}, {5000, 8}, {api.MaxTime, 3},
	} {
		if e := c.Set(step.at, step.base); e != api.OK {
			t.Fatalf("Set(%d, %d) = %d", step.at, step.base, e)
		}
		checkClock(t, c, model{step.at, big.NewInt(step.base), 99})
	}
}

func TestWhenP41(t *testing.T) {
	for _, c := range []struct {
		at, base, rate, shown, want int64
		e                           api.Errno
	}{
		{10, 5, 0, 5, 10, api.OK},
		{10, 5, 0, 6, 11, api.OK},
		{10, 5, 0, 4, 10, api.OK},
		{10, 5, -api.MaxRho, least, 10, api.OK},
		{10, 5, api.MaxRho, greatest, 0, api.ErrNone},
		{0, -api.MaxTime, api.MaxRho, greatest, 0, api.ErrNone},
		{0, -5, 0, greatest - 4, 0, api.ErrNone}, // shown less base is none of 64 bits
		{0, 0, 0, api.MaxTime, api.MaxTime, api.OK},
		{0, 0, 0, api.MaxTime + 1, 0, api.ErrNone},
		{0, 0, -1, api.MaxTime, 0, api.ErrNone},
		{0, 0, 1, api.MaxTime, api.MaxTime - 1125899, api.OK},
		{api.MaxTime, 7, 0, 7, api.MaxTime, api.OK},
		{api.MaxTime, 7, api.MaxRho, 8, 0, api.ErrNone},
		{api.MaxTime - 1, 7, 0, 8, api.MaxTime, api.OK},
		{api.MaxTime - 1, 7, -1, 8, 0, api.ErrNone},
		{0, 0, api.MaxRho, 1000, 1000, api.OK},
		{0, 0, api.MaxRho, 1001, 1000, api.OK},
		{0, 0, -api.MaxRho, 999, 1000, api.OK},
		{0, 0, -api.MaxRho, 1000, 1002, api.OK},
	} {
		clock, m := made(t, c.at, c.base, c.rate)
		if got, e := clock.When(c.shown); got != c.want || e != c.e {
			t.Errorf("When(%d) of %v = %d, %d, want %d, %d", c.shown, m, got, e, c.want, c.e)
		}
		checkWhen(t, clock, m, c.shown)
		checkMark(t, clock, m)
	}
}

// step does one call of a script to both the clock and the model, and holds what it answers against it.
func step(t *testing.T, r *rand.Rand, c *Clock, m model) model {
	t.Helper()
	at := anyTime(r, m.mark)
	switch r.Intn(4) {
	case 0: // as clocks are used: not far ahead of the last time
		at = min(m.mark+int64(r.Intn(5000)), api.MaxTime)
	case 1:
		at = []int64{m.mark - 1, m.mark, least, -1, api.MaxTime + 1, greatest}[r.Intn(6)]
	}
	switch r.Intn(5) {
	case 0:
		rate, want := anyRate(r), api.ErrArg
		if r.Intn(4) == 0 {
			rate = noRates[r.Intn(len(noRates))]
		}
		next := m
		if m.tells(at) && !isOf(rate, noRates) {
			next, want = model{at, m.shows(at), rate}, api.OK
		}
		if e := c.Rate(at, rate); e != want {
			t.Fatalf("Rate(%d, %d) of %v = %d, want %d", at, rate, m, e, want)
		}
		return next
	case 1:
		base, want := anyBase(r), api.ErrArg
		if r.Intn(4) == 0 {
			base = noBases[r.Intn(len(noBases))]
		}
		next := m
		if m.tells(at) && !isOf(base, noBases) {
			next, want = model{at, big.NewInt(base), m.rate}, api.OK
		}
		if e := c.Set(at, base); e != want {
			t.Fatalf("Set(%d, %d) of %v = %d, want %d", at, base, m, e, want)
		}
		return next
	case 2:
		shown := int64(r.Uint64()) >> r.Intn(64)
		if m.tells(at) && r.Intn(4) > 0 {
			shown = m.shows(at).Int64() + int64(r.Intn(5)-2)
		}
		checkWhen(t, c, m, shown)
	default:
		checkNow(t, c, m, at)
	}
	return m
}

func TestScriptsP41(t *testing.T) {
	r := rand.New(rand.NewSource(1))
	for range 3000 {
		c, m := made(t, anyTime(r, 0), anyBase(r), anyRate(r))
		for range 30 {
			m = step(t, r, c, m)
			checkMark(t, c, m)
		}
	}
}

// TestManyRatesP41: bases that only changes of rate bring about may leave what New and Set take, and all still holds.
func TestManyRatesP41(t *testing.T) {
	for _, base := range []int64{-api.MaxTime, 0, api.MaxTime} {
		c, m := made(t, 0, base, api.MaxRho)
		const pieces = 1000
		for i := int64(1); i <= pieces; i++ {
			at := api.MaxTime / pieces * i
			m = model{at, m.shows(at), api.MaxRho - i%3}
			if e := c.Rate(at, m.rate); e != api.OK {
				t.Fatal(e)
			}
			checkMark(t, c, m)
		}
		checkClock(t, c, m)
	}
}

// TestOnwardsP42 walks nanosecond by nanosecond, over changes of the rate.
func TestOnwardsP42(t *testing.T) {
	r := rand.New(rand.NewSource(2))
	for range 300 {
		at := r.Int63n(api.MaxTime - 10000)
		c, _ := made(t, at, anyBase(r), anyRate(r))
		last, _ := c.Now(at)
		for range 3000 {
			if r.Intn(50) == 0 {
				c.Rate(at, anyRate(r))
			}
			at++
			now, e := c.Now(at)
			if now < last || now > last+2 || e != api.OK {
				t.Fatalf("at %d: %d, %d, and ahead of it %d", at, now, e, last)
			}
			last = now
		}
	}
}

// TestStepsP42: all three steps come, also across a change of the rate.
func TestStepsP42(t *testing.T) {
	for _, c := range []struct{ rate, at, step int64 }{
		{api.MaxRho, 999, 2}, {api.MaxRho, 998, 1}, {-api.MaxRho, 0, 0}, {-api.MaxRho, 1, 1}, {-api.MaxRho, 1000, 0}, {0, 5, 1},
	} {
		clock, m := made(t, 0, 0, c.rate)
		a, _ := clock.Now(c.at)
		if b, _ := clock.Now(c.at + 1); b-a != c.step {
			t.Errorf("%v goes on by %d behind %d, want %d", m, b-a, c.at, c.step)
		}
	}
}

func TestDriftP43(t *testing.T) {
	r := rand.New(rand.NewSource(3))
	for range 2000 {
		start := anyTime(r, 0)
		base := anyBase(r)
		c, _ := made(t, start, base, anyRate(r))
		changes := int64(0)
		at := start
		for range r.Intn(8) {
			at = anyTime(r, at)
			if e := c.Rate(at, anyRate(r)); e != api.OK {
				t.Fatal(e)
			}
			changes++
		}
		at = anyTime(r, at)
		now, e := c.Now(at)
		d := at - start
		// Times 1000 the bound is whole, as MaxRho / 10^9 is a thousandth.
		more := (now - base) * 1000
		if lo, hi := d*999-1000*(1+changes), d*1001+1000; more < lo || more > hi || e != api.OK {
			t.Fatalf("over %d and %d changes it shows %d more, error %d", d, changes, now-base, e)
		}
	}
}

func TestAlikeP44(t *testing.T) {
	r := rand.New(rand.NewSource(4))
	for range 1000 {
		a, m := made(t, anyTime(r, 0), anyBase(r), anyRate(r))
		for range 5 {
			m = step(t, r, a, m)
		}
		at, base, rate := a.Mark()
		b, e := New(at, base, rate)
		if e != api.OK { // a base beyond what New takes
			continue
		}
		for range 20 {
			then, shown := anyTime(r, at), anyBase(r)
			now, nowErr := a.Now(then)
			when, whenErr := a.When(shown)
			if n, e := b.Now(then); n != now || e != nowErr {
				t.Fatalf("%v shows %d at %d, one made so %d", m, now, then, n)
			}
			if n, e := b.When(shown); n != when || e != whenErr {
				t.Fatalf("%v shows %d at %d, one made so at %d", m, shown, when, n)
			}
		}
	}
}

func TestNilP44(t *testing.T) {
	var c *Clock
	for _, n := range []int64{least, -1, 0, 1, api.MaxTime, greatest} {
		if got, e := c.Now(n); got != 0 || e != api.ErrArg {
			t.Errorf("Now(%d) = %d, %d", n, got, e)
		}
		if e := c.Rate(n, n); e != api.ErrArg {
			t.Errorf("Rate(%d, %d) = %d", n, n, e)
		}
		if e := c.Set(n, n); e != api.ErrArg {
			t.Errorf("Set(%d, %d) = %d", n, n, e)
		}
		if got, e := c.When(n); got != 0 || e != api.ErrArg {
			t.Errorf("When(%d) = %d, %d", n, got, e)
		}
	}
	if at, base, rate := c.Mark(); at != 0 || base != 0 || rate != 0 {
		t.Errorf("Mark = %d, %d, %d", at, base, rate)
	}
}

func TestDriftP41(t *testing.T) {
	above, below := math.Inf(1), math.Inf(-1)
	for _, c := range []struct {
		x    float64
		want int64
		e    api.Errno
	}{
		{0, 0, api.OK},
		{math.Copysign(0, -1), 0, api.OK},
		{0.5, 500, api.OK},
		{-0.5, -500, api.OK},
		{100, 100000, api.OK},
		{0.001, 1, api.OK},
		{0.0004, 0, api.OK},
		{0.0005, 0, api.OK},
		{0.0006, 1, api.OK},
		{0.0015, 2, api.OK},
		{0.0025, 2, api.OK},
		{-0.0015, -2, api.OK},
		{-0.0025, -2, api.OK},
		{math.SmallestNonzeroFloat64, 0, api.OK},
		{1000, api.MaxRho, api.OK},
		{-1000, -api.MaxRho, api.OK},
		{1000.0004, api.MaxRho, api.OK},
		{1000.001, 0, api.ErrRange},
		{-1000.0004, -api.MaxRho, api.OK},
		{-1000.001, 0, api.ErrRange},
		{1001, 0, api.ErrRange},
		{-1001, 0, api.ErrRange},
		{1e9, 0, api.ErrRange},
		{1e16, 0, api.ErrRange}, // its thousandfold is none of 64 bits
		{-1e16, 0, api.ErrRange},
		{1e306, 0, api.ErrRange}, // its thousandfold is infinite
		{math.MaxFloat64, 0, api.ErrRange},
		{-math.MaxFloat64, 0, api.ErrRange},
		{above, 0, api.ErrRange},
		{below, 0, api.ErrRange},
		{math.NaN(), 0, api.ErrNaN},
		{math.Float64frombits(0xFFF0000000000001), 0, api.ErrNaN},
	} {
		if got, e := Drift(c.x); got != c.want || e != c.e {
			t.Errorf("Drift(%v) = %d, %d, want %d, %d", c.x, got, e, c.want, c.e)
		}
	}
}

// TestApartR2: no clock hangs on another.
func TestApartR2(t *testing.T) {
	a, m := made(t, 0, 0, 5)
	b, _ := made(t, 0, 0, 5)
	if b.Set(10, 100) != api.OK || b.Rate(20, -5) != api.OK {
		t.Fatal("set")
	}
	checkClock(t, a, m)
	checkClock(t, b, model{20, big.NewInt(110), -5})
}

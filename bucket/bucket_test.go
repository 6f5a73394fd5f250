package bucket

import (
	"math"
	"math/big"
	"math/rand"
	"testing"

	"tocsin/api"
)

const (
	maxTime  = 1 << 50
	maxCycle = 1 << 30
)

// beyond are times at which no frame can come.
var beyond = []int64{math.MinInt64, math.MinInt64 + 1, math.MinInt64 + maxCycle, -maxTime - maxCycle, -maxTime - 1,
	maxTime + 1, maxTime + 2, maxTime + maxCycle, 1 << 62, math.MaxInt64 - maxCycle, math.MaxInt64 - 1, math.MaxInt64}

// noGaps and noJitters are none that a bucket can have.
var (
	noGaps    = []int64{math.MinInt64, -maxCycle, -1, 0, maxCycle + 1, 1 << 31, 1<<32 + 1, 1 << 62, math.MaxInt64}
	noJitters = []int64{math.MinInt64, -maxCycle, -100, -1, maxCycle + 1, 1 << 31, 1 << 32, 1 << 62, math.MaxInt64}
)

func whole(n int64) *big.Int { return big.NewInt(n) }

func greater(x, y *big.Int) *big.Int {
	if x.Cmp(y) > 0 {
		return x
	}
	return y
}

// model is a bucket in the chapter's words, in numbers without an end: it keeps all that passed, and nothing else.
type model struct {
	gap, jitter int64
	passed      []int64
	refused     int
}

// mark is what all that passed made of the least number of 64 bits.
func (m *model) mark() *big.Int {
	mark := whole(math.MinInt64)
	for _, t := range m.passed {
		mark = new(big.Int).Add(greater(whole(t), mark), whole(m.gap))
	}
	return mark
}

// from is the first time of all at which a frame would pass.
func (m *model) from() *big.Int {
	from := new(big.Int).Sub(m.mark(), whole(m.jitter))
	if n := len(m.passed); n > 0 {
		from = greater(from, whole(m.passed[n-1]))
	}
	return from
}

func (m *model) take(t int64) bool {
	if t < -maxTime || t > maxTime || whole(t).Cmp(m.from()) < 0 {
		m.refused++
		return false
	}
	m.passed = append(m.passed, t)
	return true
}

func (m *model) next(t int64) int64 {
	if t < -maxTime || t > maxTime {
		return 0
	}
	return greater(whole(t), m.from()).Int64()
}

func made(t *testing.T, gap, jitter int64) *Bucket {
	t.Helper()
	b, e := New(gap, jitter)
	if b == nil || e != api.OK {
		t.Fatal(gap, jitter, b, e)
	}
	return b
}

// same holds a bucket against its model, at some times.
func same(t *testing.T, b *Bucket, m *model, at ...int64) {
	t.Helper()
	if b.Passed() != len(m.passed) || b.Refused() != m.refused {
		t.Fatal(m, b.Passed(), b.Refused())
	}
	for _, s := range at {
		if got, want := b.Next(s), m.next(s); got != want {
			t.Fatal(m, "next of", s, got, want)
		}
	}
}

func TestExamplesP141(t *testing.T) {
	b := made(t, 100, 10)
	if !b.Take(0) || !b.Take(90) || b.Take(170) || !b.Take(190) || b.Next(195) != 290 {
		t.Error(b)
	}
	if b.Passed() != 3 || b.Refused() != 1 {
		t.Error(b.Passed(), b.Refused())
	}
	if n := Budget(100, 10, 190); n != 3 {
		t.Error(n)
	}
}

func TestNewEdgesP141(t *testing.T) {
	for _, gap := range []int64{1, 2, 100, maxCycle - 1, maxCycle} {
		for _, jitter := range []int64{0, 1, 100, maxCycle - 1, maxCycle} {
			b := made(t, gap, jitter)
			same(t, b, &model{gap: gap, jitter: jitter}, 0, maxTime, -maxTime)
		}
	}
}

func TestNewWrongP141(t *testing.T) {
	for _, gap := range noGaps {
		for _, jitter := range append([]int64{0, 1, maxCycle}, noJitters...) {
			if b, e := New(gap, jitter); b != nil || e != api.ErrArg {
				t.Error(gap, jitter, b, e)
			}
		}
	}
	for _, jitter := range noJitters {
		for _, gap := range []int64{1, 100, maxCycle} {
			if b, e := New(gap, jitter); b != nil || e != api.ErrArg {
				t.Error(gap, jitter, b, e)
			}
		}
	}
}

// At first any time passes, also where the mark less jitter would be below 64 bits.
func TestFirstPassesP141(t *testing.T) {
	for _, jitter := range []int64{0, 1, maxCycle} {
		for _, at := range []int64{-maxTime, -maxTime + 1, -1, 0, 1, maxTime - 1, maxTime} {
			b := made(t, 100, jitter)
			if b.Next(at) != at || !b.Take(at) || b.Passed() != 1 || b.Refused() != 0 {
				t.Error(jitter, at, b)
			}
			if after := b.Next(-maxTime); after != max(at, at+100-jitter) {
				t.Error(jitter, at, after)
			}
		}
	}
}

// A frame passes at the mark less jitter, and not one nanosecond sooner.
func TestTakeEdgesP141(t *testing.T) {
	for _, c := range []struct{ gap, jitter, first, from int64 }{
		{1, 0, 0, 1}, {1, 1, 0, 0}, {1, maxCycle, 5, 5}, {100, 0, 7, 107}, {100, 10, -7, 83}, {100, 99, 0, 1},
		{100, 100, 0, 0}, {100, 101, 0, 0}, {maxCycle, 0, 0, maxCycle}, {maxCycle, maxCycle - 1, 3, 4},
		{maxCycle, maxCycle, 3, 3}, {maxCycle, 0, maxTime - maxCycle, maxTime}, {maxCycle, 0, -maxTime, maxCycle - maxTime},
	} {
		b := made(t, c.gap, c.jitter)
		if !b.Take(c.first) || b.Next(c.first) != c.from || b.Next(-maxTime) != c.from || b.Next(c.from) != c.from {
			t.Error(c, b)
		}
		if b.Take(c.from-1) || b.Refused() != 1 || b.Next(c.first) != c.from {
			t.Error(c, "too soon", b)
		}
		if !b.Take(c.from) || b.Passed() != 2 || b.Refused() != 1 {
			t.Error(c, "in time", b)
		}
	}
}

// A frame that comes early leaves the mark behind it as it would have been; one that comes late sets it on.
func TestMarkP141(t *testing.T) {
	b := made(t, 100, 40)
	for _, c := range []struct{ at, next int64 }{{0, 60}, {60, 160}, {160, 260}, {290, 360}, {360, 460}, {1000, 1060}} {
		if !b.Take(c.at) || b.Next(c.at) != c.next {
			t.Error(c, b)
		}
	}
}

// Where jitter leaves room for several at one time, none passes that is ahead of the last.
func TestAheadOfLastP141(t *testing.T) {
	b := made(t, 10, 1000)
	if !b.Take(500) || !b.Take(500) || b.Take(499) || b.Take(-maxTime) {
		t.Error(b)
	}
	if b.Next(0) != 500 || b.Next(499) != 500 || b.Next(501) != 501 {
		t.Error(b.Next(0), b.Next(499), b.Next(501))
	}
	if !b.Take(501) || b.Take(500) || !b.Take(501) || b.Passed() != 4 || b.Refused() != 3 {
		t.Error(b)
	}
}

// What is refused changes nothing but how many were.
func TestRefusedChangesNothingP141(t *testing.T) {
	b := made(t, 100, 10)
	b.Take(0)
	b.Take(90)
	was := *b
	for i, at := range append([]int64{-1, 0, 89, 90, 100, 189}, beyond...) {
		if b.Take(at) || b.Refused() != i+1 {
			t.Error(at, b)
		}
		now := *b
		if now.refused = was.refused; now != was {
			t.Error(at, now, was)
		}
	}
}

func TestBeyondP141(t *testing.T) {
	for _, b := range []*Bucket{made(t, 1, 0), made(t, maxCycle, maxCycle)} {
		for i, at := range beyond {
			if b.Take(at) || b.Next(at) != 0 || b.Passed() != 0 || b.Refused() != i+1 {
				t.Error(at, b)
			}
		}
		if !b.Take(-maxTime) || b.Passed() != 1 {
			t.Error("what was refused isn't to be ahead of", b)
		}
	}
}

// The next time may be above MaxTime, at which none passes.
func TestNextAboveMaxTimeP141(t *testing.T) {
	for _, c := range []struct{ gap, jitter, next int64 }{
		{1, 0, maxTime + 1}, {maxCycle, 0, maxTime + maxCycle}, {maxCycle, 1, maxTime + maxCycle - 1}, {100, 10, maxTime + 90},
	} {
		b := made(t, c.gap, c.jitter)
		if !b.Take(maxTime) || b.Next(maxTime) != c.next || b.Next(-maxTime) != c.next || b.Next(c.next) != 0 {
			t.Error(c, b)
		}
		if b.Take(c.next) || b.Passed() != 1 || b.Refused() != 1 {
			t.Error(c, b)
		}
	}
}

// The greatest mark that can be is MaxTime, jitter and gap.
func TestGreatestMarkP141(t *testing.T) {
	b := made(t, maxCycle, maxCycle)
	if !b.Take(maxTime) || !b.Take(maxTime) || b.Take(maxTime) || b.Next(0) != maxTime+maxCycle {
		t.Error(b, b.Next(0))
	}
}

// Each script of five times, in each small bucket, forth and back.
func TestAllScriptsP141P142(t *testing.T) {
	const length, times = 5, 7
	for gap := int64(1); gap <= 4; gap++ {
		for jitter := int64(0); jitter <= 6; jitter++ {
			for script := range 16807 {
				b, m := made(t, gap, jitter), &model{gap: gap, jitter: jitter}
				for range length {
					at := int64(script%times) - 2
					script /= times
					if got, want := b.Take(at), m.take(at); got != want {
						t.Fatal(m, at, got, want)
					}
				}
				same(t, b, m, -3, 0, 9)
				within(t, m)
			}
		}
	}
}

// within holds each stretch between two that passed against the budget.
func within(t *testing.T, m *model) {
	t.Helper()
	for i, from := range m.passed {
		for j, to := range m.passed[i:] {
			if n := Budget(m.gap, m.jitter, to-from); int64(j+1) > n {
				t.Fatal(m, from, to, "passed", j+1, "budget", n)
			}
		}
	}
}

// pick is one of several, or by chance.
func pick(r *rand.Rand, least, greatest int64) int64 {
	switch r.Intn(6) {
	case 0:
		return least
	case 1:
		return greatest
	case 2:
		return min(greatest, least+int64(r.Intn(300)))
	}
	return least + r.Int63n(greatest-least+1)
}

func TestRandomScriptsP141P142(t *testing.T) {
	r := rand.New(rand.NewSource(14))
	for range 2000 {
		reach := []int64{3, 100, 100000, maxCycle}[r.Intn(4)]
		m := &model{gap: pick(r, 1, reach), jitter: pick(r, 0, reach)}
		b := made(t, m.gap, m.jitter)
		at := []int64{-maxTime, -50, 0, maxTime - 8*reach}[r.Intn(4)]
		for range 40 {
			switch s := b.Next(at); r.Intn(8) {
			case 0:
				at = s
			case 1:
				at = s - 1
			case 2:
				at -= r.Int63n(reach)
			case 3:
				at = beyond[r.Intn(len(beyond))]
			case 4, 5:
				at += r.Int63n(reach)
			}
			if got, want := b.Take(at), m.take(at); got != want {
				t.Fatal(m, at, got, want)
			}
			same(t, b, m, at, -maxTime, 0, maxTime, beyond[r.Intn(len(beyond))])
			if len(m.passed) > 0 && (at < -maxTime || at > maxTime) {
				at = m.passed[len(m.passed)-1]
			}
		}
		within(t, m)
	}
}

// Next asks and doesn't take; and what it answers is the first at which Take lets pass.
func TestNextIsFirstP141(t *testing.T) {
	r := rand.New(rand.NewSource(141))
	for range 3000 {
		b := made(t, 1+r.Int63n(30), r.Int63n(60))
		at := r.Int63n(100)
		for range r.Intn(6) {
			b.Take(at)
			at += r.Int63n(20)
		}
		asked := at - r.Int63n(40)
		was := *b
		first := b.Next(asked)
		if *b != was {
			t.Fatal("Next took", was, *b)
		}
		for s := asked; s <= first; s++ {
			if c := was; c.Take(s) != (s == first) {
				t.Fatal(was, asked, first, s)
			}
		}
	}
}

func TestBudgetP141(t *testing.T) {
	gaps := []int64{1, 2, 3, 7, 100, maxCycle - 1, maxCycle}
	jitters := []int64{0, 1, 2, 6, 10, 99, 100, 101, maxCycle - 1, maxCycle}
	ds := []int64{0, 1, 2, 89, 90, 91, 189, 190, maxCycle - 1, maxCycle, maxTime, 2*maxTime - 1, 2 * maxTime}
	for _, gap := range gaps {
		for _, jitter := range jitters {
			for _, d := range ds {
				sum := new(big.Int).Add(whole(d), whole(jitter))
				want := sum.Div(sum, whole(gap)).Int64() + 1
				if got := Budget(gap, jitter, d); got != want {
					t.Error(gap, jitter, d, got, want)
				}
			}
		}
	}
}

func TestBudgetWrongP141(t *testing.T) {
	for _, gap := range noGaps {
		if n := Budget(gap, 10, 190); n != 0 {
			t.Error("gap", gap, n)
		}
	}
	for _, jitter := range noJitters {
		if n := Budget(100, jitter, 190); n != 0 {
			t.Error("jitter", jitter, n)
		}
	}
	for _, d := range []int64{math.MinInt64, -maxTime, -11, -10, -1, 2*maxTime + 1, 1 << 62, math.MaxInt64 - 5, math.MaxInt64} {
		if n := Budget(100, 10, d); n != 0 {
			t.Error("d", d, n)
		}
	}
}

// One that sends as soon as it can gets just its budget, so no less a number holds.
func TestBudgetIsReachedP142(t *testing.T) {
	for gap := int64(1); gap <= 8; gap++ {
		for jitter := int64(0); jitter <= 20; jitter++ {
			for d := int64(0); d <= 30; d++ {
				b := made(t, gap, jitter)
				for at := b.Next(-15); at <= d-15; at = b.Next(at) {
					b.Take(at)
				}
				if got, want := int64(b.Passed()), Budget(gap, jitter, d); got != want {
					t.Error(gap, jitter, d, got, want)
				}
			}
		}
	}
}

// Whoever sends all the time gets no more than the budget in any stretch, whatever stretch is looked at.
func TestBudgetHoldsP142(t *testing.T) {
	r := rand.New(rand.NewSource(142))
	for range 300 {
		gap, jitter := 1+r.Int63n(20), r.Int63n(50)
		b := made(t, gap, jitter)
		var passed [200]int64
		for at := range passed {
			for range r.Intn(5) {
				if b.Take(int64(at)) {
					passed[at]++
				}
			}
		}
		for from := range passed {
			n := int64(0)
			for d, k := range passed[from:] {
				if n += k; n > Budget(gap, jitter, int64(d)) {
					t.Fatal(gap, jitter, from, d, n)
				}
			}
		}
	}
}

func TestFairP143(t *testing.T) {
	r := rand.New(rand.NewSource(143))
	for range 1000 {
		reach := []int64{1, 10, 1000, maxCycle}[r.Intn(4)]
		gap, jitter := pick(r, 1, reach), pick(r, 0, reach)
		b := made(t, gap, jitter)
		at := []int64{-maxTime, -3, 0, maxTime - 99*gap}[r.Intn(4)]
		for i := range 100 {
			if !b.Take(at) {
				t.Fatal(gap, jitter, i, at)
			}
			if at += gap; r.Intn(3) == 0 && at < maxTime/2 {
				at += r.Int63n(3 * gap)
			}
		}
		if b.Passed() != 100 || b.Refused() != 0 {
			t.Fatal(b)
		}
	}
}

// A gap behind a frame that passed, whatever else came ahead of it, the next one passes.
func TestFairBehindABurstP143(t *testing.T) {
	r := rand.New(rand.NewSource(1430))
	for range 2000 {
		gap := 1 + r.Int63n(30)
		b := made(t, gap, r.Int63n(100))
		at := int64(0)
		for range r.Intn(20) {
			for range r.Intn(4) {
				b.Take(at)
			}
			at += r.Int63n(20)
		}
		last := max(b.last, 0)
		for range 10 {
			if last += gap + r.Int63n(2); !b.Take(last) {
				t.Fatal(b, last)
			}
		}
	}
}

func TestNilP144(t *testing.T) {
	var b *Bucket
	for _, at := range append([]int64{-maxTime, -1, 0, 1, 195, maxTime}, beyond...) {
		if b.Take(at) || b.Next(at) != 0 || b.Passed() != 0 || b.Refused() != 0 {
			t.Error(at)
		}
	}
}

// Two buckets have nothing of one another.
func TestApartR2(t *testing.T) {
	a, b := made(t, 100, 0), made(t, 100, 0)
	if !a.Take(50) || b.Next(0) != 0 || !b.Take(0) || a.Next(0) != 150 || b.Next(0) != 100 {
		t.Error(a, b)
	}
}

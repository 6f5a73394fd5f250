package perm

import (
	"math"
	"math/rand"
	"slices"
	"testing"

	"tocsin/api"
	"tocsin/clock"
)

const least, greatest = math.MinInt64, math.MaxInt64

// noTimes and noDelays are none: just beyond the edges, and far away.
var (
	noTimes  = []int64{least, least + 1, -api.MaxTime, -1, api.MaxTime + 1, greatest - 1, greatest}
	noDelays = []int64{least, -api.MaxDelay, -1, api.MaxDelay + 1, api.MaxTime, greatest}
)

var edgeDelays = []int64{0, 1, 2, 2000, api.MaxDelay - 1, api.MaxDelay}

// noFrames have one field each that isn't right.
var noFrames = []api.Control{
	{}, {Kind: 3}, {Kind: -1}, {Kind: 257},
	{Kind: 1, From: -1}, {Kind: 1, From: 8}, {Kind: 2, From: 256}, {Kind: 1, From: least},
	{Kind: 1, Cycle: -1}, {Kind: 2, Cycle: api.MaxTime + 1}, {Kind: 1, Cycle: least},
	{Kind: 1, Crew: 64}, {Kind: 2, Crew: math.MaxUint32},
	{Kind: 1, Clear: -1}, {Kind: 1, Clear: least}, {Kind: 1, Clear: api.MaxDelay + 1}, {Kind: 2, Clear: greatest},
}

// dial is a clock's mark, base and rate.
type dial struct{ mark, base, rate int64 }

func dialOf(c *clock.Clock) dial {
	mark, base, rate := c.Mark()
	return dial{mark, base, rate}
}

// shows is what chapter 4 words: the drift of whole billions, and that of the rest rounded downwards.
func (d dial) shows(t int64) int64 {
	gone := t - d.mark
	rest := gone % 1_000_000_000 * d.rate
	drift := rest / 1_000_000_000
	if rest < 0 && rest%1_000_000_000 != 0 {
		drift--
	}
	return d.base + gone + gone/1_000_000_000*d.rate + drift
}

// when looks for the least time of all, halving.
func (d dial) when(shown int64) (int64, api.Errno) {
	if d.shows(api.MaxTime) < shown {
		return 0, api.ErrNone
	}
	lo, hi := d.mark, int64(api.MaxTime)
	for lo < hi {
		if mid := lo + (hi-lo)/2; d.shows(mid) >= shown {
			hi = mid
		} else {
			lo = mid + 1
		}
	}
	return lo, api.OK
}

// due is when a frame is permanent, worded apart from the package.
func (d dial) due(t, spent, delay int64) (int64, api.Errno) {
	if delay < 0 || delay > 1<<20 || spent < 0 || spent > delay || t < d.mark || t > 1<<50 {
		return 0, api.ErrArg
	}
	return d.when(d.shows(t) + delay - spent)
}

func clockOf(t *testing.T, d dial) *clock.Clock {
	t.Helper()
	c, e := clock.New(d.mark, d.base, d.rate)
	if e != api.OK {
		t.Fatalf("no clock %v: %v", d, e)
	}
	return c
}

func holdOf(t *testing.T, delay int64) *Hold {
	t.Helper()
	h, e := New(delay)
	if h == nil || e != api.OK {
		t.Fatalf("New(%d) = %v, %d", delay, h, e)
	}
	return h
}

func wantDue(t *testing.T, c *clock.Clock, at, spent, delay, want int64, wantErr api.Errno) {
	t.Helper()
	if got, e := Due(c, at, spent, delay); got != want || e != wantErr {
		t.Errorf("Due(%v, %d, %d, %d) = %d, %d, want %d, %d", dialOf(c), at, spent, delay, got, e, want, wantErr)
	}
}

func wantTake(t *testing.T, h *Hold, c *clock.Clock, at int64, f api.Control, want int64, wantErr api.Errno) {
	t.Helper()
	if got, e := h.Take(c, at, f); got != want || e != wantErr {
		t.Errorf("Take(%v, %d, %v) = %d, %d, want %d, %d", dialOf(c), at, f, got, e, want, wantErr)
	}
}

func wantNext(t *testing.T, h *Hold, want int64, wantOK bool) {
	t.Helper()
	if got, ok := h.Next(); got != want || ok != wantOK {
		t.Errorf("Next = %d, %v, want %d, %v", got, ok, want, wantOK)
	}
}

func wantLen(t *testing.T, h *Hold, want int) {
	t.Helper()
	if n := h.Len(); n != want {
		t.Errorf("Len = %d, want %d", n, want)
	}
}

func wantGive(t *testing.T, h *Hold, at int64, f api.Control, due int64) {
	t.Helper()
	if got, when, ok := h.Give(at); got != f || when != due || !ok {
		t.Errorf("Give(%d) = %v, %d, %v, want %v, %d", at, got, when, ok, f, due)
	}
}

// wantNothing is that nothing is given at a time.
func wantNothing(t *testing.T, h *Hold, at int64) {
	t.Helper()
	if got, when, ok := h.Give(at); got != (api.Control{}) || when != 0 || ok {
		t.Errorf("Give(%d) = %v, %d, %v, want nothing", at, got, when, ok)
	}
}

func TestExamplesP101(t *testing.T) {
	c := clockOf(t, dial{})
	h := holdOf(t, 2000)
	first := api.Control{Kind: 1, Clear: 1500}
	second := api.Control{Kind: 1, Clear: 200}
	wantTake(t, h, c, 1500, first, 2000, api.OK)
	wantTake(t, h, c, 300, second, 2100, api.OK)
	wantTake(t, h, c, 300, api.Control{Kind: 1, Clear: 2001}, 0, api.ErrRange)
	wantNext(t, h, 2000, true)
	wantLen(t, h, 2)
	wantGive(t, h, 2100, first, 2000)
	wantGive(t, h, 2100, second, 2100)
	wantNothing(t, h, 2100)
}

func TestDueP101(t *testing.T) {
	const most, end = api.MaxDelay, api.MaxTime
	for _, c := range []struct {
		d                      dial
		at, spent, delay, want int64
		e                      api.Errno
	}{
		{dial{0, 0, 0}, 5, 1, 10, 14, api.OK},
		{dial{0, 0, 0}, 5, 0, 10, 15, api.OK},
		{dial{0, 0, 0}, 5, 10, 10, 5, api.OK},
		{dial{0, 0, 0}, 0, 0, 0, 0, api.OK},
		{dial{0, 0, 0}, 0, 0, most, most, api.OK},
		{dial{0, 0, 0}, 0, most, most, 0, api.OK},
		{dial{0, 0, 0}, 7, most - 1, most, 8, api.OK},
		{dial{100, -end, 0}, 100, 3, 9, 106, api.OK},
		{dial{100, end, 0}, 100, 3, 9, 106, api.OK},
		{dial{0, 0, 0}, 5, 0, -1, 0, api.ErrArg},
		{dial{0, 0, 0}, 5, 0, most + 1, 0, api.ErrArg},
		{dial{0, 0, 0}, 5, -1, 10, 0, api.ErrArg},
		{dial{0, 0, 0}, 5, 11, 10, 0, api.ErrArg},
		{dial{0, 0, 0}, 5, 1, 0, 0, api.ErrArg},
		{dial{0, 0, 0}, -1, 1, 10, 0, api.ErrArg},
		{dial{0, 0, 0}, end + 1, 1, 10, 0, api.ErrArg},
		{dial{100, 0, 0}, 99, 1, 10, 0, api.ErrArg},
		{dial{100, 0, 0}, 100, 1, 10, 109, api.OK},
		// At the end of time.
		{dial{0, 0, 0}, end, 0, 0, end, api.OK},
		{dial{0, 0, 0}, end, 10, 10, end, api.OK},
		{dial{0, 0, 0}, end, 9, 10, 0, api.ErrNone},
		{dial{0, 0, 0}, end - 10, 0, 10, end, api.OK},
		{dial{0, 0, 0}, end - 10, 0, 11, 0, api.ErrNone},
		{dial{0, 0, 0}, end - 10, 1, 11, end, api.OK},
		{dial{end, end, 1000000}, end, 0, 1, 0, api.ErrNone},
		{dial{end, -end, 1000000}, end, most, most, end, api.OK},
		{dial{0, end, 1000000}, end, 0, most, 0, api.ErrNone},
		// The node's own clock counts, not real time.
		{dial{0, 0, 1000000}, 0, 0, 1001, 1000, api.OK},
		{dial{0, 0, -1000000}, 0, 0, 999, 1000, api.OK},
		{dial{0, 0, -1000000}, 0, 0, 1000, 1002, api.OK},
		{dial{0, 500, -1000000}, 0, 0, 1000, 1002, api.OK},
		// A clock that goes too slowly shows one number twice, and the first of both times counts.
		{dial{0, 0, -1}, 1, 0, 0, 0, api.OK},
		{dial{0, 0, -1}, 1, 7, 7, 0, api.OK},
		{dial{1, 0, -1}, 1, 7, 7, 1, api.OK},
	} {
		wantDue(t, clockOf(t, c.d), c.at, c.spent, c.delay, c.want, c.e)
	}
}

func TestDueRefusesP101(t *testing.T) {
	right := clockOf(t, dial{})
	for _, delay := range noDelays {
		for _, spent := range []int64{delay, 0, 1, -1} {
			wantDue(t, right, 5, spent, delay, 0, api.ErrArg)
			wantDue(t, right, api.MaxTime, spent, delay, 0, api.ErrArg) // not ErrNone
		}
	}
	for _, delay := range edgeDelays {
		for _, spent := range []int64{least, -1, delay + 1, greatest} {
			wantDue(t, right, 5, spent, delay, 0, api.ErrArg)
			wantDue(t, right, api.MaxTime, spent, delay, 0, api.ErrArg)
		}
		for _, at := range noTimes {
			wantDue(t, right, at, 0, delay, 0, api.ErrArg)
		}
		wantDue(t, nil, 5, 0, delay, 0, api.ErrArg)
	}
}

// anyFrom is a number from lo to hi, near to one of both mostly.
func anyFrom(r *rand.Rand, lo, hi int64) int64 {
	n := r.Int63n(hi-lo+1) >> r.Intn(51)
	if r.Intn(2) == 0 {
		return lo + n
	}
	return hi - n
}

func anyDial(r *rand.Rand) dial {
	d := dial{
		mark: anyFrom(r, 0, api.MaxTime),
		base: anyFrom(r, -api.MaxTime, api.MaxTime),
		rate: anyFrom(r, -api.MaxRho, api.MaxRho),
	}
	if r.Intn(3) == 0 {
		d.rate = 0
	}
	return d
}

func TestDueRandomP101(t *testing.T) {
	r := rand.New(rand.NewSource(101))
	for range 100000 {
		d := anyDial(r)
		c := clockOf(t, d)
		at := anyFrom(r, d.mark, api.MaxTime)
		delay := anyFrom(r, 0, api.MaxDelay)
		spent := anyFrom(r, 0, delay)
		switch r.Intn(20) {
		case 0:
			at = d.mark - 1 - r.Int63n(9)
		case 1:
			spent = delay + 1 + r.Int63n(9)
		case 2:
			spent = -1 - r.Int63n(9)
		case 3:
			delay = noDelays[r.Intn(len(noDelays))]
		}
		want, e := d.due(at, spent, delay)
		wantDue(t, c, at, spent, delay, want, e)
	}
}

func TestNewP101(t *testing.T) {
	for _, delay := range noDelays {
		if h, e := New(delay); h != nil || e != api.ErrArg {
			t.Errorf("New(%d) = %v, %d", delay, h, e)
		}
	}
	for _, delay := range edgeDelays {
		h := holdOf(t, delay)
		wantLen(t, h, 0)
		wantNext(t, h, 0, false)
		for _, at := range append(noTimes, 0, delay, api.MaxTime) {
			wantNothing(t, h, at)
		}
		c := clockOf(t, dial{})
		wantTake(t, h, c, 0, api.Control{Kind: 1}, delay, api.OK)
		wantTake(t, h, c, 5, api.Control{Kind: 2, Clear: delay}, 5, api.OK)
		if delay < api.MaxDelay {
			wantTake(t, h, c, 5, api.Control{Kind: 2, Clear: delay + 1}, 0, api.ErrRange)
		}
		wantLen(t, h, 2)
	}
}

// fill takes as many frames in as may be held, all permanent at one time.
func fill(t *testing.T, h *Hold, due int64) {
	t.Helper()
	c := clockOf(t, dial{})
	for i := range int64(api.MaxQueue) {
		wantTake(t, h, c, due-h.delay, api.Control{Kind: 1, From: 3, Cycle: i}, due, api.OK)
	}
	wantLen(t, h, api.MaxQueue)
}

// What is refused for more than one reason is refused for the one that is named first, and leaves nothing behind.
func TestTakeRefusesP101(t *testing.T) {
	h, full := holdOf(t, 2000), holdOf(t, 2000)
	fill(t, full, 5000)
	right := clockOf(t, dial{})
	late := clockOf(t, dial{100, 0, 0})
	good := api.Control{Kind: 2, From: 7, Cycle: api.MaxTime, Crew: 63, Clear: 2000}
	slow := api.Control{Kind: 1, Clear: 2001}
	slowest := api.Control{Kind: 2, Clear: api.MaxDelay}
	for _, h := range []*Hold{h, full} {
		for _, c := range []*clock.Clock{right, late, nil} {
			for _, at := range append(noTimes, 0, 99, 100, api.MaxTime) {
				for _, f := range noFrames {
					wantTake(t, h, c, at, f, 0, api.ErrArg)
				}
				wantTake(t, h, c, at, slow, 0, api.ErrRange)
				wantTake(t, h, c, at, slowest, 0, api.ErrRange)
			}
		}
		for _, at := range noTimes {
			wantTake(t, h, right, at, good, 0, api.ErrArg)
			wantTake(t, h, nil, at, good, 0, api.ErrArg)
		}
		wantTake(t, h, nil, 100, good, 0, api.ErrArg)
		wantTake(t, h, late, 99, good, 0, api.ErrArg)
		wantTake(t, h, right, api.MaxTime-1999, api.Control{Kind: 1}, 0, api.ErrNone)
		wantTake(t, h, right, api.MaxTime, api.Control{Kind: 1, Clear: 1999}, 0, api.ErrNone)
	}
	wantLen(t, h, 0)
	wantNext(t, h, 0, false)
	wantTake(t, full, right, api.MaxTime, good, 0, api.ErrFull)
	wantTake(t, full, late, 100, good, 0, api.ErrFull)
	wantTake(t, h, right, api.MaxTime, good, api.MaxTime, api.OK)
	wantTake(t, h, right, api.MaxTime-2000, api.Control{Kind: 1}, api.MaxTime, api.OK)
	wantTake(t, h, late, 100, good, 100, api.OK)
	wantLen(t, h, 3)
	for i := range int64(api.MaxQueue) {
		wantGive(t, full, 5000, api.Control{Kind: 1, From: 3, Cycle: i}, 5000)
	}
	wantLen(t, full, 0)
}

// A right frame of each kind and sender, at the edges of its fields, is held and given as it came.
func TestFramesP101(t *testing.T) {
	c := clockOf(t, dial{})
	for kind := api.Integrate; kind <= api.Compress; kind++ {
		for from := 0; from <= api.MaxHosts+1; from++ {
			for _, cycle := range []int64{0, 1, api.MaxTime} {
				for _, team := range []uint32{0, 1, 63} {
					for _, spent := range []int64{0, 1, api.MaxDelay} {
						h := holdOf(t, api.MaxDelay)
						f := api.Control{Kind: kind, From: from, Cycle: cycle, Crew: team, Clear: spent}
						due := 9 + api.MaxDelay - spent
						wantTake(t, h, c, 9, f, due, api.OK)
						wantNothing(t, h, due-1)
						wantGive(t, h, due, f, due)
						wantLen(t, h, 0)
					}
				}
			}
		}
	}
}

func TestFullP101(t *testing.T) {
	c := clockOf(t, dial{})
	h := holdOf(t, 10)
	fill(t, h, 50)
	sooner := api.Control{Kind: 1, From: 5, Clear: 10}
	for range 3 {
		wantTake(t, h, c, 20, sooner, 0, api.ErrFull)
		wantLen(t, h, api.MaxQueue)
		wantNext(t, h, 50, true)
	}
	wantNothing(t, h, 49)
	wantTake(t, h, c, 20, sooner, 0, api.ErrFull)
	wantGive(t, h, 50, api.Control{Kind: 1, From: 3}, 50)
	wantTake(t, h, c, 20, sooner, 20, api.OK)
	wantTake(t, h, c, 20, sooner, 0, api.ErrFull)
	wantNext(t, h, 20, true)
	wantGive(t, h, 20, sooner, 20)
}

// Those that are permanent at one time come by their sender, and those of one sender as they were taken.
func TestOrderP101(t *testing.T) {
	c := clockOf(t, dial{})
	h := holdOf(t, 100)
	take := func(at int64, from int, cycle, spent int64) {
		t.Helper()
		wantTake(t, h, c, at, api.Control{Kind: 2, From: from, Cycle: cycle, Clear: spent}, at+100-spent, api.OK)
	}
	take(20, 7, 0, 0)
	take(30, 4, 9, 10)
	take(20, 4, 8, 0)
	take(110, 0, 7, 89)
	take(120, 4, 1, 100)
	take(90, 1, 6, 70)
	take(25, 2, 5, 6)
	for _, f := range []struct {
		due        int64
		from       int
		cycle, was int64
	}{
		{119, 2, 5, 6}, {120, 1, 6, 70}, {120, 4, 9, 10}, {120, 4, 8, 0}, {120, 4, 1, 100}, {120, 7, 0, 0}, {121, 0, 7, 89},
	} {
		wantNext(t, h, f.due, true)
		wantNothing(t, h, f.due-1)
		wantGive(t, h, 121, api.Control{Kind: 2, From: f.from, Cycle: f.cycle, Clear: f.was}, f.due)
	}
	wantNext(t, h, 0, false)
}

// Give asks nothing of its time but that it isn't ahead of what it gives.
func TestGiveTimesP101(t *testing.T) {
	c := clockOf(t, dial{})
	f := api.Control{Kind: 1, Clear: 4}
	for _, s := range []struct {
		at    int64
		gives bool
	}{
		{least, false}, {-1, false}, {0, false}, {1005, false}, {1006, true}, {1007, true}, {api.MaxTime, true}, {api.MaxTime + 1, true}, {greatest, true},
	} {
		h := holdOf(t, 10)
		wantTake(t, h, c, 1000, f, 1006, api.OK)
		if s.gives {
			wantGive(t, h, s.at, f, 1006)
			wantLen(t, h, 0)
		}
		wantNothing(t, h, s.at)
	}
	h := holdOf(t, 10)
	wantTake(t, h, c, 0, api.Control{Kind: 1, Clear: 10}, 0, api.OK)
	wantNothing(t, h, -1)
	wantGive(t, h, 0, api.Control{Kind: 1, Clear: 10}, 0)
}

// held is one of a model's frames.
type held struct {
	f   api.Control
	due int64
}

// model is a hold as the chapter words it: its frames as they were taken.
type model struct {
	delay  int64
	frames []held
}

func (m *model) take(d dial, at int64, f api.Control) (int64, api.Errno) {
	switch {
	case f.Kind < 1 || f.Kind > 2 || f.From < 0 || f.From > 7 || f.Cycle < 0 || f.Cycle > 1<<50 || f.Crew > 63 || f.Clear < 0 || f.Clear > 1<<20:
		return 0, api.ErrArg
	case f.Clear > m.delay:
		return 0, api.ErrRange
	}
	due, e := d.due(at, f.Clear, m.delay)
	if e != api.OK {
		return 0, e
	}
	if len(m.frames) == 64 {
		return 0, api.ErrFull
	}
	m.frames = append(m.frames, held{f, due})
	return due, api.OK
}

// first is the place of the first one of those held, looked for among all.
func (m model) first() int {
	first := 0
	for i, o := range m.frames {
		a := m.frames[first]
		if o.due < a.due || o.due == a.due && o.f.From < a.f.From {
			first = i
		}
	}
	return first
}

func (m model) next() (int64, bool) {
	if len(m.frames) == 0 {
		return 0, false
	}
	return m.frames[m.first()].due, true
}

func (m *model) give(at int64) (held, bool) {
	if due, ok := m.next(); !ok || due > at {
		return held{}, false
	}
	i := m.first()
	given := m.frames[i]
	m.frames = slices.Delete(m.frames, i, i+1)
	return given, true
}

// anyControl is a frame about a delay, now and then one that isn't right.
func anyControl(r *rand.Rand, delay int64) api.Control {
	if r.Intn(20) == 0 {
		return noFrames[r.Intn(len(noFrames))]
	}
	spent := anyFrom(r, 0, delay)
	if r.Intn(20) == 0 {
		spent = delay + 1
	}
	return api.Control{Kind: 1 + r.Intn(2), From: r.Intn(8), Cycle: r.Int63n(1000), Crew: uint32(r.Intn(64)), Clear: spent}
}

// turn changes a clock somehow.
func turn(r *rand.Rand, c *clock.Clock, at int64) {
	if r.Intn(2) == 0 {
		c.Rate(at, anyFrom(r, -api.MaxRho, api.MaxRho))
	} else {
		c.Set(at, anyFrom(r, -api.MaxTime, api.MaxTime))
	}
}

// step does one call to both the hold and the model, about a time.
func step(t *testing.T, r *rand.Rand, h *Hold, m *model, c *clock.Clock, now, takes int64) {
	t.Helper()
	if r.Int63n(10) < takes {
		f := anyControl(r, m.delay)
		d := dialOf(c)
		want, e := m.take(d, now, f)
		wantTake(t, h, c, now, f, want, e)
		if dialOf(c) != d {
			t.Fatal("the clock is another")
		}
		return
	}
	at := now + r.Int63n(m.delay+2) - r.Int63n(3)
	if want, ok := m.give(at); ok {
		wantGive(t, h, at, want.f, want.due)
	} else {
		wantNothing(t, h, at)
	}
}

func wantState(t *testing.T, h *Hold, m *model) {
	t.Helper()
	wantLen(t, h, len(m.frames))
	due, ok := m.next()
	wantNext(t, h, due, ok)
	if t.Failed() {
		t.FailNow()
	}
}

func TestScriptsP101(t *testing.T) {
	r := rand.New(rand.NewSource(102))
	for range 600 {
		delay := edgeDelays[r.Intn(len(edgeDelays))]
		h, m := holdOf(t, delay), &model{delay: delay}
		now := anyFrom(r, 0, api.MaxTime)
		clocks := []*clock.Clock{clockOf(t, dial{0, 0, 0}), clockOf(t, dial{now, now, -5}), clockOf(t, dial{now / 2, -now, 70})}
		for range 300 {
			c := clocks[r.Intn(len(clocks))]
			if r.Intn(20) == 0 {
				turn(r, c, now)
			}
			// More are taken than given, for a while, then fewer.
			step(t, r, h, m, c, now, 5+int64(len(m.frames)/8+r.Intn(5))%5)
			wantState(t, h, m)
			if r.Intn(4) == 0 {
				now += r.Int63n(min(delay, 9) + 1)
			}
		}
	}
}

// When a frame is permanent is reckoned as it is taken; its clock's changes behind that don't matter.
func TestClockTurnedP101(t *testing.T) {
	c := clockOf(t, dial{})
	h := holdOf(t, 1000)
	f, g := api.Control{Kind: 1, From: 1}, api.Control{Kind: 1, From: 2}
	wantTake(t, h, c, 50, f, 1050, api.OK)
	if e := c.Set(60, 900); e != api.OK {
		t.Fatal(e)
	}
	if e := c.Rate(70, 1000000); e != api.OK {
		t.Fatal(e)
	}
	wantNext(t, h, 1050, true)
	wantTake(t, h, c, 70, g, 1070, api.OK)
	wantNothing(t, h, 1049)
	wantGive(t, h, 1050, f, 1050)
	wantGive(t, h, 1070, g, 1070)
}

// sending is a frame under way.
type sending struct{ at, took int64 }

// anySendings are in the order of their sending, none slower than the delay, one by one.
func anySendings(r *rand.Rand, delay int64) []sending {
	l := make([]sending, 1+r.Intn(api.MaxQueue))
	now := r.Int63n(api.MaxTime / 2)
	for i := range l {
		l[i] = sending{now, anyFrom(r, 0, delay)}
		now += 1 + r.Int63n(1+delay/4)
	}
	return l
}

func TestSendOrderP102(t *testing.T) {
	r := rand.New(rand.NewSource(103))
	for range 2000 {
		delay := edgeDelays[r.Intn(len(edgeDelays))]
		sent := anySendings(r, delay)
		c := clockOf(t, dial{0, anyFrom(r, -api.MaxTime, api.MaxTime), 0})
		h := holdOf(t, delay)
		for _, i := range r.Perm(len(sent)) { // in any order, as they arrive
			s := sent[i]
			f := api.Control{Kind: 1, From: r.Intn(8), Cycle: int64(i), Clear: s.took}
			wantTake(t, h, c, s.at+s.took, f, s.at+delay, api.OK)
		}
		for i, s := range sent {
			wantNothing(t, h, s.at+delay-1)
			if f, due, ok := h.Give(s.at + delay); f.Cycle != int64(i) || due != s.at+delay || !ok {
				t.Fatalf("frame %d of %v: %v, %d, %v", i, s, f, due, ok)
			}
		}
	}
}

// Each frame is given before one that was sent behind it can be, though that one arrives ahead.
func TestOvertakenP102(t *testing.T) {
	c := clockOf(t, dial{})
	h := holdOf(t, 2000)
	slow := api.Control{Kind: 1, From: 5, Clear: 2000}
	fast := api.Control{Kind: 1, From: 0, Clear: 0}
	wantTake(t, h, c, 1, fast, 2001, api.OK)
	wantNothing(t, h, 1999)
	wantTake(t, h, c, 2000, slow, 2000, api.OK)
	wantGive(t, h, 2001, slow, 2000)
	wantGive(t, h, 2001, fast, 2001)
}

func TestAwayP103(t *testing.T) {
	r := rand.New(rand.NewSource(104))
	for range 100000 {
		d := anyDial(r)
		d.mark /= 2
		at := d.mark + r.Int63n(api.MaxTime/4)
		delay := anyFrom(r, 0, api.MaxDelay)
		spent := anyFrom(r, 0, delay)
		due, e := Due(clockOf(t, d), at, spent, delay)
		// Both sides times 10^9, so that nothing is rounded.
		away := max(due-(at+delay-spent), at+delay-spent-due)
		if e != api.OK || (away-2)*1_000_000_000 > 2*delay*max(d.rate, -d.rate) {
			t.Fatalf("Due(%v, %d, %d, %d) = %d, %d", d, at, spent, delay, due, e)
		}
	}
}

func TestNilP104(t *testing.T) {
	var h *Hold
	right := clockOf(t, dial{})
	for range 2 {
		for _, c := range []*clock.Clock{right, nil} {
			for _, at := range append(noTimes, 0, 1, api.MaxTime) {
				for _, f := range append(noFrames, api.Control{Kind: 1}, api.Control{Kind: 2, Clear: api.MaxDelay}) {
					wantTake(t, h, c, at, f, 0, api.ErrArg)
				}
				wantNothing(t, h, at)
			}
		}
		wantNext(t, h, 0, false)
		wantLen(t, h, 0)
	}
}

// What one hold is handed, another doesn't know of.
func TestApartR2(t *testing.T) {
	r := rand.New(rand.NewSource(105))
	c := clockOf(t, dial{0, 77, 999})
	var holds [4]*Hold
	var models [4]*model
	for i := range holds {
		holds[i], models[i] = holdOf(t, edgeDelays[i]), &model{delay: edgeDelays[i]}
	}
	for n := range int64(4000) {
		i := r.Intn(len(holds))
		step(t, r, holds[i], models[i], c, 1000000+n/4, 5)
		for j := range holds {
			wantState(t, holds[j], models[j])
		}
	}
}

package wire

import (
	"math"
	"math/big"
	"math/rand"
	"testing"

	"tocsin/api"
)

const least, greatest = math.MinInt64, math.MaxInt64

// noTimes, noSizes and noDelays are none: just beyond the edges, and far away.
var (
	noTimes  = []int64{least, least + 1, -api.MaxTime, -1, api.MaxTime + 1, greatest - 1, greatest}
	noSizes  = []int{least, -64, -1, 0, 1, 63, 1519, 1 << 20, greatest}
	noDelays = []int64{least, -api.MaxDelay, -1, api.MaxDelay + 1, api.MaxTime, greatest}
)

var edgeDelays = []int64{0, 1, 100, api.MaxDelay - 1, api.MaxDelay}

// model is a wire as the chapter words it: the last frame, and how long it is on the wire.
type model struct {
	delay int64
	begin int64
	on    int64
}

func (m model) busy(t int64) bool {
	return t >= m.begin && t-m.begin < m.on
}

// isReal is whether t is a real time, worded apart from the package.
func isReal(t int64) bool { return t >= 0 && t <= 1<<50 }

func (m *model) send(t int64, size int) (int64, api.Errno) {
	if !isReal(t) || size < 64 || size > 1518 {
		return 0, api.ErrArg
	}
	if m.busy(t) {
		return 0, api.ErrThere
	}
	if t < m.begin {
		return 0, api.ErrArg
	}
	m.begin, m.on = t, int64(size)*8
	return t + m.on + m.delay, api.OK
}

func (m model) free(t int64) (int64, api.Errno) {
	if !isReal(t) {
		return 0, api.ErrArg
	}
	if m.busy(t) {
		return m.begin + m.on, api.OK
	}
	return t, api.OK
}

func (m *model) cut(t int64) bool {
	if !m.busy(t) {
		return false
	}
	m.on = t - m.begin
	return true
}

func made(t *testing.T, delay int64) (*Wire, *model) {
	t.Helper()
	w, e := New(delay)
	if w == nil || e != api.OK {
		t.Fatalf("New(%d) = %v, %d", delay, w, e)
	}
	return w, &model{delay: delay}
}

func wantSend(t *testing.T, w *Wire, at int64, size int, want int64, wantErr api.Errno) {
	t.Helper()
	if got, e := w.Send(at, size); got != want || e != wantErr {
		t.Errorf("Send(%d, %d) = %d, %d, want %d, %d", at, size, got, e, want, wantErr)
	}
}

func wantFree(t *testing.T, w *Wire, at, want int64, wantErr api.Errno) {
	t.Helper()
	if got, e := w.Free(at); got != want || e != wantErr {
		t.Errorf("Free(%d) = %d, %d, want %d, %d", at, got, e, want, wantErr)
	}
}

func wantCut(t *testing.T, w *Wire, at int64, want bool) {
	t.Helper()
	if got := w.Cut(at); got != want {
		t.Errorf("Cut(%d) = %v", at, got)
	}
}

// around are times about the edges of what a model remembers.
func around(m model) []int64 {
	l := []int64{0, 1, api.MaxTime - 1, api.MaxTime}
	for _, at := range []int64{m.begin, m.begin + m.on} {
		l = append(l, at-2, at-1, at, at+1, at+2)
	}
	return append(l, noTimes...)
}

// wantState holds what a wire tells of itself without a change against the model.
func wantState(t *testing.T, w *Wire, m *model) {
	t.Helper()
	for _, at := range around(*m) {
		want, e := m.free(at)
		wantFree(t, w, at, want, e)
	}
	if t.Failed() {
		t.FailNow()
	}
}

func TestExamplesP91(t *testing.T) {
	w, _ := made(t, 100)
	wantSend(t, w, 1000, 64, 1612, api.OK)
	wantSend(t, w, 1200, 64, 0, api.ErrThere)
	wantFree(t, w, 1200, 1512, api.OK)
	wantSend(t, w, 1512, 1518, 13756, api.OK)
	wantCut(t, w, 2000, true)
	wantFree(t, w, 2000, 2000, api.OK)
	wantSend(t, w, 1400, 64, 0, api.ErrArg)
	if c, e := Clear(api.Control{Clear: 5}, 7); c != (api.Control{Clear: 12}) || e != api.OK {
		t.Error("Clear", c, e)
	}
}

func TestNewP91(t *testing.T) {
	for _, delay := range noDelays {
		if w, e := New(delay); w != nil || e != api.ErrArg {
			t.Errorf("New(%d) = %v, %d", delay, w, e)
		}
	}
	for _, delay := range edgeDelays {
		w, m := made(t, delay)
		wantState(t, w, m)
		wantSend(t, w, 0, 64, 512+delay, api.OK)
	}
}

// A wire that nothing was sent over isn't busy, not even at 0.
func TestUnsentP91(t *testing.T) {
	w, m := made(t, 7)
	for _, at := range append(noTimes, 0, 1, 511, 512, api.MaxTime) {
		wantCut(t, w, at, false)
	}
	wantState(t, w, m)
}

func TestSendSizesP91(t *testing.T) {
	for size := api.MinSize; size <= api.MaxSize; size++ {
		w, _ := made(t, 3)
		end := 50 + int64(size)*8
		wantSend(t, w, 50, size, end+3, api.OK)
		wantFree(t, w, 50, end, api.OK)
		wantFree(t, w, end-1, end, api.OK)
		wantFree(t, w, end, end, api.OK)
	}
}

func TestSendRefusesP91(t *testing.T) {
	w, m := made(t, 100)
	for range 2 { // nothing was sent, and then something was
		for _, at := range noTimes {
			for _, size := range append(noSizes, 64, 1518) {
				wantSend(t, w, at, size, 0, api.ErrArg)
			}
		}
		for _, size := range noSizes { // while the wire is busy, too
			for _, at := range []int64{0, 900, 1000, 1200, 1511, 1512, 1600, api.MaxTime} {
				wantSend(t, w, at, size, 0, api.ErrArg)
			}
		}
		wantState(t, w, m)
		m.send(1000, 64)
		w.Send(1000, 64)
	}
	for _, at := range []int64{0, 1, 488, 999} {
		wantSend(t, w, at, 64, 0, api.ErrArg)
	}
	for _, at := range []int64{1000, 1001, 1511} {
		wantSend(t, w, at, 64, 0, api.ErrThere)
	}
	wantState(t, w, m)
	wantSend(t, w, 1512, 64, 2124, api.OK)
}

func TestFreeP91(t *testing.T) {
	w, _ := made(t, 100)
	wantSend(t, w, 1000, 64, 1612, api.OK)
	for _, c := range []struct{ at, want int64 }{
		{0, 0}, {999, 999}, {1000, 1512}, {1001, 1512}, {1511, 1512}, {1512, 1512}, {1513, 1513}, {api.MaxTime, api.MaxTime},
	} {
		wantFree(t, w, c.at, c.want, api.OK)
	}
	for _, at := range noTimes {
		wantFree(t, w, at, 0, api.ErrArg)
	}
}

func TestCutP91(t *testing.T) {
	for _, c := range []struct {
		at   int64
		does bool
	}{
		{least, false}, {-1, false}, {0, false}, {999, false},
		{1000, true}, {1001, true}, {1200, true}, {1511, true},
		{1512, false}, {1513, false}, {api.MaxTime, false}, {api.MaxTime + 1, false}, {greatest, false},
	} {
		w, m := made(t, 100)
		wantSend(t, w, 1000, 64, 1612, api.OK)
		m.send(1000, 64)
		wantCut(t, w, c.at, c.does)
		if c.does {
			m.on = c.at - 1000
		}
		wantState(t, w, m)
		wantCut(t, w, c.at, false)
		wantState(t, w, m)
	}
}

// What was cut may be cut once more, ahead of that.
func TestCutAgainP91(t *testing.T) {
	w, m := made(t, 0)
	wantSend(t, w, 1000, 64, 1512, api.OK)
	m.begin, m.on = 1000, 512
	for _, c := range []struct {
		at   int64
		does bool
	}{{1400, true}, {1450, false}, {1400, false}, {1399, true}, {999, false}, {1000, true}, {1000, false}} {
		wantCut(t, w, c.at, c.does)
		if c.does {
			m.on = c.at - 1000
		}
		wantState(t, w, m)
	}
}

// From its being cut on the wire takes the next frame, but none that would begin ahead of the one that was cut.
func TestSendBehindCutP91(t *testing.T) {
	w, m := made(t, 10)
	wantSend(t, w, 1000, 1518, 13154, api.OK)
	wantCut(t, w, 1000, true)
	wantSend(t, w, 999, 64, 0, api.ErrArg)
	wantSend(t, w, 1000, 64, 1522, api.OK)
	wantCut(t, w, 1300, true)
	wantSend(t, w, 1299, 64, 0, api.ErrThere)
	wantSend(t, w, 999, 64, 0, api.ErrArg)
	wantSend(t, w, 1300, 64, 1822, api.OK)
	m.begin, m.on = 1300, 512
	wantState(t, w, m)
}

// At the end of time frames are off, and at the other end, beyond it.
func TestMaxTimeP91(t *testing.T) {
	const end = api.MaxTime + 12144
	w, m := made(t, api.MaxDelay)
	wantSend(t, w, api.MaxTime, 1518, end+api.MaxDelay, api.OK)
	m.begin, m.on = api.MaxTime, 12144
	wantState(t, w, m)
	wantFree(t, w, api.MaxTime, end, api.OK)
	wantSend(t, w, api.MaxTime, 64, 0, api.ErrThere)
	wantSend(t, w, api.MaxTime+1, 64, 0, api.ErrArg)
	wantCut(t, w, end, false)
	wantCut(t, w, end-1, true)
	wantFree(t, w, api.MaxTime, end-1, api.OK)
	wantCut(t, w, api.MaxTime+1, true)
	wantFree(t, w, api.MaxTime, api.MaxTime+1, api.OK)
	wantCut(t, w, api.MaxTime, true)
	wantFree(t, w, api.MaxTime, api.MaxTime, api.OK)
	wantSend(t, w, api.MaxTime, 64, api.MaxTime+512+api.MaxDelay, api.OK)
}

// anyTime is a time near to what a model remembers, seldom one far away, or none.
func anyTime(r *rand.Rand, m model) int64 {
	switch r.Intn(8) {
	case 0:
		l := around(m)
		return l[r.Intn(len(l))]
	case 1:
		return m.begin - int64(r.Intn(1000))
	case 2:
		return m.begin + int64(r.Intn(100000))
	case 3:
		return m.begin + m.on
	}
	return m.begin + r.Int63n(m.on+100)
}

func anySize(r *rand.Rand) int {
	if r.Intn(8) == 0 {
		return noSizes[r.Intn(len(noSizes))]
	}
	return []int{64, 65, 100, 1000, 1517, 1518}[r.Intn(6)]
}

// step does one call to both the wire and the model.
func step(t *testing.T, r *rand.Rand, w *Wire, m *model) {
	t.Helper()
	at := anyTime(r, *m)
	switch r.Intn(4) {
	case 0:
		wantCut(t, w, at, m.cut(at))
	case 1:
		want, e := m.free(at)
		wantFree(t, w, at, want, e)
	default:
		size := anySize(r)
		want, e := m.send(at, size)
		wantSend(t, w, at, size, want, e)
	}
}

func TestScriptsP91(t *testing.T) {
	r := rand.New(rand.NewSource(1))
	for range 2000 {
		w, m := made(t, edgeDelays[r.Intn(len(edgeDelays))])
		if r.Intn(3) == 0 {
			start := api.MaxTime - r.Int63n(1<<r.Intn(50))
			m.send(start, 64)
			w.Send(start, 64)
		}
		for range 50 {
			step(t, r, w, m)
			wantState(t, w, m)
		}
	}
}

// What one wire is handed, another doesn't know of.
func TestApartR2(t *testing.T) {
	r := rand.New(rand.NewSource(2))
	var wires [5]*Wire
	var models [5]*model
	for i := range wires {
		wires[i], models[i] = made(t, edgeDelays[i])
	}
	for range 5000 {
		i := r.Intn(len(wires))
		step(t, r, wires[i], models[i])
		for j := range wires {
			wantState(t, wires[j], models[j])
		}
	}
}

func TestOneBehindTheOtherP92(t *testing.T) {
	r := rand.New(rand.NewSource(3))
	for range 500 {
		delay := edgeDelays[r.Intn(len(edgeDelays))]
		w, _ := made(t, delay)
		now, last := r.Int63n(api.MaxTime/2), int64(0)
		for range 100 {
			size := 64 + r.Intn(1455)
			begin, e := w.Free(now)
			if begin < now || e != api.OK {
				t.Fatalf("Free(%d) = %d, %d", now, begin, e)
			}
			at, e := w.Send(begin, size)
			if own := int64(size) * 8; at-last < own || at != begin+own+delay || e != api.OK {
				t.Fatalf("Send(%d, %d) = %d, %d, and ahead of it %d", begin, size, at, e, last)
			}
			last = at
			// The next is at hand while this one is on the wire, when it is off, or later.
			now = begin + r.Int63n(20000)
		}
	}
}

// Sent as soon as may be, frames lie on the wire without a gap.
func TestWithoutGapP92(t *testing.T) {
	w, _ := made(t, 100)
	last := int64(5100)
	for i := range 1000 {
		size := 64 + i
		begin, _ := w.Free(5000)
		if i > 0 {
			begin, _ = w.Free(last - 101)
		}
		at, e := w.Send(begin, size)
		if at-last != int64(size)*8 || e != api.OK {
			t.Fatalf("frame %d is there at %d, %d, the one ahead at %d", i, at, e, last)
		}
		last = at
	}
}

func TestNilP93(t *testing.T) {
	var w *Wire
	for range 2 {
		for _, at := range append(noTimes, 0, 1, api.MaxTime) {
			for _, size := range append(noSizes, 64, 1518) {
				wantSend(t, w, at, size, 0, api.ErrArg)
			}
			wantFree(t, w, at, 0, api.ErrArg)
			wantCut(t, w, at, false)
		}
	}
}

func TestClearP91(t *testing.T) {
	const most = api.MaxDelay
	for _, c := range []struct {
		clear, spent, want int64
		e                  api.Errno
	}{
		{0, 0, 0, api.OK},
		{5, 7, 12, api.OK},
		{0, most, most, api.OK},
		{most, 0, most, api.OK},
		{1, most - 1, most, api.OK},
		{most - 1, 1, most, api.OK},
		{0, -1, 0, api.ErrArg},
		{5, -5, 0, api.ErrArg},
		{5, least, 0, api.ErrArg},
		{-1, -1, 0, api.ErrArg},
		{most + 1, -1, 0, api.ErrArg},
		{greatest, least, 0, api.ErrArg},
		{0, most + 1, 0, api.ErrRange},
		{1, most, 0, api.ErrRange},
		{most, 1, 0, api.ErrRange},
		{most + 1, 0, 0, api.ErrRange},
		{-1, 0, 0, api.ErrRange},
		{-1, 1, 0, api.ErrRange},
		{-most, most, 0, api.ErrRange},
		{least, 0, 0, api.ErrRange},
		{least, greatest, 0, api.ErrRange},
		{greatest, 0, 0, api.ErrRange},
		{greatest, greatest, 0, api.ErrRange},
		{1, greatest, 0, api.ErrRange},
		{most, greatest, 0, api.ErrRange},
		{0, greatest, 0, api.ErrRange},
	} {
		wantClear(t, api.Control{Kind: 1, From: 2, Cycle: 7, Crew: 5, Clear: c.clear}, c.spent, c.want, c.e)
	}
}

// Nothing but the Clear is asked of a frame, and nothing else is another behind it.
func TestClearOfAnyFrameP91(t *testing.T) {
	for _, c := range []api.Control{
		{},
		{Kind: 2, From: 7, Cycle: api.MaxTime, Crew: 63},
		{Kind: -3, From: least, Cycle: least, Crew: math.MaxUint32},
		{Kind: greatest, From: greatest, Cycle: greatest, Crew: 1 << 31},
	} {
		c.Clear = 20
		wantClear(t, c, 22, 42, api.OK)
		wantClear(t, c, -1, 0, api.ErrArg)
		wantClear(t, c, api.MaxDelay, 0, api.ErrRange)
	}
}

func wantClear(t *testing.T, c api.Control, spent, clear int64, wantErr api.Errno) {
	t.Helper()
	want := api.Control{}
	if wantErr == api.OK {
		want = c
		want.Clear = clear
	}
	if got, e := Clear(c, spent); got != want || e != wantErr {
		t.Errorf("Clear(%v, %d) = %v, %d, want %v, %d", c, spent, got, e, want, wantErr)
	}
}

func TestClearRandomP91(t *testing.T) {
	r := rand.New(rand.NewSource(4))
	most := big.NewInt(1 << 20)
	for range 100000 {
		c := api.Control{Kind: 1, Clear: int64(r.Uint64()) >> r.Intn(64)}
		spent := int64(r.Uint64()) >> r.Intn(64)
		sum := new(big.Int).Add(big.NewInt(c.Clear), big.NewInt(spent))
		switch {
		case spent < 0:
			wantClear(t, c, spent, 0, api.ErrArg)
		case c.Clear < 0 || c.Clear > 1<<20 || sum.Cmp(most) > 0:
			wantClear(t, c, spent, 0, api.ErrRange)
		default:
			wantClear(t, c, spent, sum.Int64(), api.OK)
		}
	}
}

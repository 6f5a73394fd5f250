package comp

import (
	"math"
	"math/rand"
	"slices"
	"testing"

	"tocsin/api"
)

const least, greatest = math.MinInt64, math.MaxInt64

// noWindows and noLocals are none: just beyond the edges, and far away.
var (
	noWindows = []int64{least, -api.MaxDelay, -1, api.MaxDelay + 1, api.MaxTime, greatest}
	noLocals  = []int64{least, least + 1, -api.MaxTime - 1, api.MaxTime + 1, greatest - 1, greatest}
)

var edgeWindows = []int64{0, 1, 2, 100, api.MaxDelay - 1, api.MaxDelay}

// noFrames aren't right in one field each, or aren't a host's to be compressed.
var noFrames = []api.Control{
	{}, {Kind: 3}, {Kind: -1}, {Kind: 257},
	{Kind: 1, From: -1}, {Kind: 1, From: 8}, {Kind: 1, From: 256}, {Kind: 1, From: least}, {Kind: 1, From: greatest},
	{Kind: 1, Cycle: -1}, {Kind: 1, Cycle: api.MaxTime + 1}, {Kind: 1, Cycle: least}, {Kind: 1, Cycle: greatest},
	{Kind: 1, Crew: 64}, {Kind: 1, Crew: math.MaxUint32},
	{Kind: 1, Clear: -1}, {Kind: 1, Clear: least}, {Kind: 1, Clear: api.MaxDelay + 1}, {Kind: 1, Clear: greatest},
	{Kind: 2}, {Kind: 2, From: 5, Cycle: 3}, {Kind: 2, From: 6}, {Kind: 2, From: 7},
	{Kind: 1, From: 6}, {Kind: 1, From: 7},
}

// from is a host's frame of a cycle.
func from(host int, cycle int64) api.Control {
	return api.Control{Kind: 1, From: host, Cycle: cycle}
}

func compOf(t *testing.T, window int64) *Comp {
	t.Helper()
	c, e := New(window)
	if c == nil || e != api.OK {
		t.Fatalf("New(%d) = %v, %d", window, c, e)
	}
	return c
}

func wantAdd(t *testing.T, c *Comp, local int64, f api.Control, want int64, wantErr api.Errno) {
	t.Helper()
	if got, e := c.Add(local, f); got != want || e != wantErr {
		t.Errorf("Add(%d, %v) = %d, %d, want %d, %d", local, f, got, e, want, wantErr)
	}
}

func wantClose(t *testing.T, c *Comp, local int64, want Result) {
	t.Helper()
	wantOpen(t, c, true)
	if got, ok := c.Close(local); got != want || !ok {
		t.Errorf("Close(%d) = %v, %v, want %v", local, got, ok, want)
	}
	wantOpen(t, c, false)
}

// wantNothing is that nothing is closed at a local time.
func wantNothing(t *testing.T, c *Comp, local int64) {
	t.Helper()
	open := c.Open()
	if got, ok := c.Close(local); got != (Result{}) || ok {
		t.Errorf("Close(%d) = %v, %v, want nothing", local, got, ok)
	}
	wantOpen(t, c, open)
}

func wantOpen(t *testing.T, c *Comp, want bool) {
	t.Helper()
	if got := c.Open(); got != want {
		t.Errorf("Open = %v, want %v", got, want)
	}
}

func TestExamplesP111(t *testing.T) {
	c := compOf(t, 100)
	wantAdd(t, c, 1000, from(0, 0), 1100, api.OK)
	wantAdd(t, c, 1010, from(1, 0), 1100, api.OK)
	wantAdd(t, c, 1090, from(2, 0), 1100, api.OK)
	wantAdd(t, c, 1050, from(1, 0), 0, api.ErrThere)
	wantAdd(t, c, 1101, from(3, 0), 0, api.ErrRange)
	wantNothing(t, c, 1099)
	wantClose(t, c, 1100, Result{Point: 1010, Crew: 7})
}

func TestNewP111(t *testing.T) {
	for _, window := range noWindows {
		if c, e := New(window); c != nil || e != api.ErrArg {
			t.Errorf("New(%d) = %v, %d", window, c, e)
		}
	}
	for _, window := range edgeWindows {
		c := compOf(t, window)
		wantOpen(t, c, false)
		for _, local := range append(noLocals, -api.MaxTime, -1, 0, 1, window, api.MaxTime) {
			wantNothing(t, c, local)
		}
		wantAdd(t, c, 0, from(0, 0), window, api.OK)
		wantAdd(t, c, window, from(1, 0), window, api.OK)
		wantAdd(t, c, window+1, from(2, 0), 0, api.ErrRange)
		wantNothing(t, c, window-1)
		wantClose(t, c, window, Result{Point: window / 2, Crew: 3})
	}
}

// A collection is open from its first local time to its end, both with it, wherever it begins.
func TestWindowP111(t *testing.T) {
	for _, window := range edgeWindows {
		for _, first := range []int64{-api.MaxTime, -api.MaxTime + 1, -window - 1, -window, -1, 0, 1, api.MaxTime - window - 1, api.MaxTime - window} {
			c := compOf(t, window)
			end := first + window
			wantAdd(t, c, first, from(3, 9), end, api.OK)
			if first > -api.MaxTime {
				wantAdd(t, c, first-1, from(4, 9), 0, api.ErrRange)
			}
			if end < api.MaxTime {
				wantAdd(t, c, end+1, from(4, 9), 0, api.ErrRange)
			}
			wantAdd(t, c, -api.MaxTime-1, from(4, 9), 0, api.ErrArg)
			wantAdd(t, c, first, from(4, 9), end, api.OK)
			wantAdd(t, c, end, from(5, 9), end, api.OK)
			wantNothing(t, c, end-1)
			wantClose(t, c, end, Result{Point: first, Crew: 56, Cycle: 9})
		}
	}
}

// The end of a collection may lie beyond the local times; it is closed there all the same.
func TestEndOfTimeP111(t *testing.T) {
	c := compOf(t, api.MaxDelay)
	end := int64(api.MaxTime + api.MaxDelay)
	wantAdd(t, c, api.MaxTime, from(0, api.MaxTime), end, api.OK)
	wantAdd(t, c, api.MaxTime, from(5, api.MaxTime), end, api.OK)
	wantAdd(t, c, api.MaxTime-1, from(1, 0), 0, api.ErrRange)
	wantAdd(t, c, api.MaxTime+1, from(1, 0), 0, api.ErrArg)
	wantNothing(t, c, api.MaxTime)
	wantNothing(t, c, end-1)
	wantClose(t, c, end, Result{Point: api.MaxTime, Crew: 33, Cycle: api.MaxTime})
	wantAdd(t, c, -api.MaxTime, from(0, 0), -api.MaxTime+api.MaxDelay, api.OK)
	wantClose(t, c, greatest, Result{Point: -api.MaxTime, Crew: 1})
}

// Close asks nothing of its local time but that it isn't ahead of the end.
func TestCloseTimesP111(t *testing.T) {
	for _, s := range []struct {
		local  int64
		closes bool
	}{
		{least, false}, {-api.MaxTime, false}, {-1, false}, {0, false}, {999, false}, {1000, false}, {1099, false},
		{1100, true}, {1101, true}, {api.MaxTime, true}, {api.MaxTime + 1, true}, {greatest, true},
	} {
		c := compOf(t, 100)
		wantAdd(t, c, 1000, from(2, 8), 1100, api.OK)
		if s.closes {
			wantClose(t, c, s.local, Result{Point: 1000, Crew: 4, Cycle: 8})
		}
		wantNothing(t, c, s.local)
		wantOpen(t, c, !s.closes)
	}
}

// A collection knows nothing of the one ahead of it, and may begin ahead of it.
func TestAgainP111(t *testing.T) {
	c := compOf(t, 10)
	wantAdd(t, c, 100, from(0, 7), 110, api.OK)
	wantAdd(t, c, 110, from(1, 7), 110, api.OK)
	wantAdd(t, c, 104, from(4, 7), 110, api.OK)
	wantClose(t, c, 110, Result{Point: 104, Crew: 19, Cycle: 7})
	wantAdd(t, c, 110, from(1, 2), 120, api.OK)
	wantNothing(t, c, 110)
	wantAdd(t, c, 112, from(0, 1), 120, api.OK)
	wantClose(t, c, 500, Result{Point: 111, Crew: 3, Cycle: 2})
	wantAdd(t, c, 50, from(0, 0), 60, api.OK)
	wantClose(t, c, 60, Result{Point: 50, Crew: 1})
}

// A collection that nobody closes stays, however late it is.
func TestUnclosedP111(t *testing.T) {
	c := compOf(t, 10)
	wantAdd(t, c, 100, from(0, 7), 110, api.OK)
	for _, local := range []int64{111, 1000, api.MaxTime, 99, 0, -api.MaxTime} {
		wantAdd(t, c, local, from(0, 7), 0, api.ErrRange)
		wantAdd(t, c, local, from(1, 7), 0, api.ErrRange)
		wantOpen(t, c, true)
	}
	wantAdd(t, c, 110, from(1, 7), 110, api.OK)
	wantClose(t, c, api.MaxTime, Result{Point: 105, Crew: 3, Cycle: 7})
}

// What is refused for more than one reason is refused for the one that is named first, and leaves nothing behind.
func TestAddRefusesP111(t *testing.T) {
	c := compOf(t, 100)
	for _, local := range append(noLocals, -api.MaxTime, 0, 1000, api.MaxTime) {
		for _, f := range noFrames {
			wantAdd(t, c, local, f, 0, api.ErrArg)
			wantOpen(t, c, false)
		}
	}
	for _, local := range noLocals {
		wantAdd(t, c, local, from(0, 0), 0, api.ErrArg)
		wantOpen(t, c, false)
	}
	wantAdd(t, c, 1000, from(0, 4), 1100, api.OK)
	for _, local := range append(noLocals, 999, 1000, 1050, 1100, 1101) {
		for _, f := range noFrames {
			wantAdd(t, c, local, f, 0, api.ErrArg)
		}
	}
	for _, local := range noLocals {
		wantAdd(t, c, local, from(0, 4), 0, api.ErrArg)
		wantAdd(t, c, local, from(1, 4), 0, api.ErrArg)
	}
	for _, local := range []int64{-api.MaxTime, 999, 1101, api.MaxTime} {
		wantAdd(t, c, local, from(0, 4), 0, api.ErrRange) // not ErrThere
		wantAdd(t, c, local, from(1, 4), 0, api.ErrRange)
	}
	for _, local := range []int64{1000, 1001, 1100} {
		wantAdd(t, c, local, from(0, 4), 0, api.ErrThere)
		wantAdd(t, c, local, api.Control{Kind: 1, Cycle: 9, Crew: 63, Clear: 7}, 0, api.ErrThere)
	}
	wantClose(t, c, 1100, Result{Point: 1000, Crew: 1, Cycle: 4})
}

// Each right frame of a host is taken in, whatever its Crew and Clear, which tell nothing here.
func TestFramesP111(t *testing.T) {
	for host := range api.MaxHosts {
		for _, cycle := range []int64{0, 1, api.MaxTime - 1, api.MaxTime} {
			for _, team := range []uint32{0, 1, 63} {
				for _, spent := range []int64{0, 1, api.MaxDelay} {
					c := compOf(t, 5)
					wantAdd(t, c, -3, api.Control{Kind: 1, From: host, Cycle: cycle, Crew: team, Clear: spent}, 2, api.OK)
					wantClose(t, c, 2, Result{Point: -3, Crew: 1 << host, Cycle: cycle})
				}
			}
		}
	}
}

func TestPointP111(t *testing.T) {
	for _, s := range []struct {
		readings []int64
		point    int64
	}{
		{[]int64{0}, 0},
		{[]int64{0, 0}, 0},
		{[]int64{0, 1}, 0},
		{[]int64{0, 2}, 1},
		{[]int64{0, 3}, 1},
		{[]int64{0, 100}, 50},
		{[]int64{0, 0, 100}, 0},
		{[]int64{0, 100, 100}, 100},
		{[]int64{0, 99, 3}, 3},
		{[]int64{0, 10, 20, 100}, 15},
		{[]int64{0, 100, 20, 11}, 15},
		{[]int64{0, 0, 100, 100}, 50},
		{[]int64{0, 0, 0, 100}, 0},
		{[]int64{0, 50, 8, 2, 90}, 26},
		{[]int64{0, 1, 2, 3, 100}, 2},
		{[]int64{0, 100, 100, 100, 97, 2}, 51},
		{[]int64{0, 0, 0, 0, 0, 100}, 0},
		{[]int64{0, 20, 40, 60, 80, 100}, 50},
	} {
		for _, first := range []int64{-api.MaxTime, -51, -50, -1, 0, 1, 1000, api.MaxTime - 100} {
			c := compOf(t, 100)
			for host, reading := range s.readings {
				wantAdd(t, c, first+reading, from(host, 0), first+100, api.OK)
			}
			wantClose(t, c, first+100, Result{Point: first + s.point, Crew: 1<<len(s.readings) - 1})
		}
	}
}

func TestCycleP111(t *testing.T) {
	const most = api.MaxTime
	for _, s := range []struct {
		cycles []int64
		want   int64
	}{
		{[]int64{0}, 0},
		{[]int64{most}, most},
		{[]int64{3, 4}, 4},
		{[]int64{4, 3}, 4},
		{[]int64{3, 3, 4}, 3},
		{[]int64{4, 3, 3}, 3},
		{[]int64{3, 4, 3}, 3},
		{[]int64{5, 9, 7}, 9},
		{[]int64{0, 0, most}, 0},
		{[]int64{0, most, most - 1}, most},
		{[]int64{2, 2, 8, 8}, 8},
		{[]int64{8, 2, 8, 2}, 8},
		{[]int64{2, 8, 2, 9}, 2},
		{[]int64{9, 1, 1, 2, 2}, 2},
		{[]int64{2, 9, 2, 1, 1}, 2},
		{[]int64{1, 1, 1, 2, 2, 9}, 1},
		{[]int64{2, 2, 1, 9, 1, 1}, 1},
		{[]int64{5, 5, 6, 6, 4, 4}, 6},
		{[]int64{1, 2, 3, 6, 5, 4}, 6},
		{[]int64{0, 0, 0, 1, 1, 1}, 1},
	} {
		c := compOf(t, 0)
		for host, cycle := range s.cycles {
			wantAdd(t, c, 70, from(host, cycle), 70, api.OK)
		}
		wantClose(t, c, 70, Result{Point: 70, Crew: 1<<len(s.cycles) - 1, Cycle: s.want})
	}
}

func TestCrewP111(t *testing.T) {
	for team := uint32(1); team < 64; team++ {
		c := compOf(t, 1)
		for host := range api.MaxHosts {
			if team>>host&1 == 1 {
				wantAdd(t, c, 0, api.Control{Kind: 1, From: host, Crew: 63 &^ team}, 1, api.OK)
			}
		}
		for host := range api.MaxHosts {
			if team>>host&1 == 1 {
				wantAdd(t, c, 1, from(host, 0), 0, api.ErrThere)
			}
		}
		wantClose(t, c, 1, Result{Crew: team})
	}
}

// A result's fields stand in its frame as they are, though no right frame may come of that.
func TestFrameP111(t *testing.T) {
	for _, number := range []int{least, -1, 0, 5, 6, 7, 8, greatest} {
		for _, cycle := range []int64{least, -1, 0, 4, api.MaxTime, greatest} {
			for _, team := range []uint32{0, 7, 63, 64, math.MaxUint32} {
				for _, point := range []int64{least, 0, 1010, greatest} {
					want := api.Control{Kind: 2, From: number, Cycle: cycle, Crew: team}
					if got := Frame(Result{Point: point, Crew: team, Cycle: cycle}, number); got != want {
						t.Errorf("Frame = %v, want %v", got, want)
					}
				}
			}
		}
	}
}

// stamped is a frame, and when it was permanent.
type stamped struct {
	local int64
	f     api.Control
}

// model is a collection as the chapter words it: the frames in the order of their coming.
type model struct {
	window int64
	frames []stamped
}

func (m *model) end() int64 { return m.frames[0].local + m.window }

func (m *model) add(local int64, f api.Control) (int64, api.Errno) {
	right := f.Kind == 1 && f.From >= 0 && f.From < 6 && f.Cycle >= 0 && f.Cycle <= 1<<50 && f.Crew < 64 && f.Clear >= 0 && f.Clear <= 1<<20
	if local < -1<<50 || local > 1<<50 || !right {
		return 0, api.ErrArg
	}
	if len(m.frames) > 0 {
		if local < m.frames[0].local || local > m.end() {
			return 0, api.ErrRange
		}
		if slices.ContainsFunc(m.frames, func(s stamped) bool { return s.f.From == f.From }) {
			return 0, api.ErrThere
		}
	}
	m.frames = append(m.frames, stamped{local, f})
	return m.end(), api.OK
}

func (m *model) close(local int64) (Result, bool) {
	if len(m.frames) == 0 || local < m.end() {
		return Result{}, false
	}
	r := Result{Point: m.point(), Crew: m.crew(), Cycle: m.cycle()}
	m.frames = nil
	return r, true
}

func (m *model) point() int64 {
	var readings []int64
	for _, s := range m.frames {
		readings = append(readings, s.local-m.frames[0].local)
	}
	slices.Sort(readings)
	if len(readings) > 2 {
		readings = readings[1 : len(readings)-1]
	}
	// No reading is below 0, so what is halved is rounded downwards.
	return m.frames[0].local + (readings[0]+readings[len(readings)-1])/2
}

func (m *model) crew() uint32 {
	team := uint32(0)
	for _, s := range m.frames {
		team += 1 << s.f.From
	}
	return team
}

func (m *model) cycle() int64 {
	count := map[int64]int{}
	for _, s := range m.frames {
		count[s.f.Cycle]++
	}
	best := int64(-1)
	for cycle, n := range count {
		if best < 0 || n > count[best] || n == count[best] && cycle > best {
			best = cycle
		}
	}
	return best
}

// anyLocal is a local time about a collection's, now and then just beyond it.
func anyLocal(r *rand.Rand, now, window int64) int64 {
	switch r.Intn(8) {
	case 0:
		return now + window + r.Int63n(4) - 2
	case 1:
		return now - r.Int63n(3)
	}
	return now + r.Int63n(window+1)>>r.Intn(8)
}

// anyControl is a host's frame mostly.
func anyControl(r *rand.Rand) api.Control {
	if r.Intn(20) == 0 {
		return noFrames[r.Intn(len(noFrames))]
	}
	return api.Control{Kind: 1, From: r.Intn(api.MaxHosts), Cycle: r.Int63n(4), Crew: uint32(r.Intn(64)), Clear: r.Int63n(api.MaxDelay + 1)}
}

// step does one call to both the collector and the model, about a local time, or that of the open collection.
func step(t *testing.T, r *rand.Rand, c *Comp, m *model, now int64) {
	t.Helper()
	if len(m.frames) > 0 {
		now = m.frames[0].local
	}
	local := anyLocal(r, now, m.window)
	if r.Intn(40) == 0 {
		local = noLocals[r.Intn(len(noLocals))]
	}
	if r.Intn(4) > 0 {
		f := anyControl(r)
		want, e := m.add(local, f)
		wantAdd(t, c, local, f, want, e)
	} else if want, ok := m.close(local); ok {
		wantClose(t, c, local, want)
	} else {
		wantNothing(t, c, local)
	}
	wantOpen(t, c, len(m.frames) > 0)
	if t.Failed() {
		t.FailNow()
	}
}

// anyNow is a local time near to the edges of local times, or to 0, or anywhere.
func anyNow(r *rand.Rand) int64 {
	far := r.Int63n(api.MaxTime+1) >> r.Intn(51)
	return []int64{far, -far, api.MaxTime - far, far - api.MaxTime}[r.Intn(4)]
}

func TestScriptsP111(t *testing.T) {
	r := rand.New(rand.NewSource(111))
	for range 1000 {
		window := edgeWindows[r.Intn(len(edgeWindows))]
		c, m := compOf(t, window), &model{window: window}
		now := anyNow(r)
		for range 300 {
			step(t, r, c, m, now)
			if len(m.frames) == 0 && r.Intn(2) == 0 {
				now = anyNow(r)
			}
		}
	}
}

// TestAllSmallP111: all collections of four frames in a window of 3, of three cycles.
func TestAllSmallP111(t *testing.T) {
	const kinds = 4 * 3
	c, m := compOf(t, 3), &model{window: 3}
	for n := range 3 * kinds * kinds * kinds {
		left := n / 3
		m.add(-2, from(3, int64(n%3)))
		wantAdd(t, c, -2, from(3, int64(n%3)), 1, api.OK)
		for _, host := range []int{0, 5, 2} {
			local, f := int64(left%4-2), from(host, int64(left%kinds/4))
			left /= kinds
			m.add(local, f)
			wantAdd(t, c, local, f, 1, api.OK)
		}
		want, _ := m.close(1)
		wantClose(t, c, 1, want)
		if t.Failed() {
			t.Fatal("at", n)
		}
	}
}

// anyFrames are of unlike hosts, in a window behind the first of them, of few cycles.
func anyFrames(r *rand.Rand, window int64, n int) []stamped {
	first := anyNow(r)
	first = min(first, api.MaxTime-window)
	var l []stamped
	for _, host := range r.Perm(api.MaxHosts)[:n] {
		l = append(l, stamped{first + r.Int63n(window+1)>>r.Intn(8), from(host, r.Int63n(4))})
	}
	l[0].local = first
	return l
}

// compressed is what becomes of frames in their order.
func compressed(t *testing.T, window int64, l []stamped) Result {
	t.Helper()
	c := compOf(t, window)
	for _, s := range l {
		wantAdd(t, c, s.local, s.f, l[0].local+window, api.OK)
	}
	r, ok := c.Close(l[0].local + window)
	if !ok || t.Failed() {
		t.Fatalf("%v isn't closed, in a window of %d", l, window)
	}
	return r
}

// lies says whether a point lies between the first and the last of frames.
func lies(point int64, l []stamped) bool {
	earlier := func(s stamped) bool { return s.local <= point }
	later := func(s stamped) bool { return s.local >= point }
	return slices.ContainsFunc(l, earlier) && slices.ContainsFunc(l, later)
}

func TestWithinP112(t *testing.T) {
	r := rand.New(rand.NewSource(112))
	for range 30000 {
		window := edgeWindows[r.Intn(len(edgeWindows))]
		l := anyFrames(r, window, 1+r.Intn(api.MaxHosts))
		point := compressed(t, window, l).Point
		if !lies(point, l) {
			t.Fatalf("the point of %v is %d", l, point)
		}
		for i := range l {
			if rest := slices.Delete(slices.Clone(l), i, i+1); len(l) >= 3 && !lies(point, rest) {
				t.Fatalf("the point of %v is %d, away from all but frame %d", l, point, i)
			}
		}
	}
}

// orders calls f with l in each of its orders from a place on.
func orders(l []stamped, ahead int, f func()) {
	if ahead == len(l) {
		f()
	}
	for i := ahead; i < len(l); i++ {
		l[ahead], l[i] = l[i], l[ahead]
		orders(l, ahead+1, f)
		l[ahead], l[i] = l[i], l[ahead]
	}
}

func TestOrderP113(t *testing.T) {
	r := rand.New(rand.NewSource(113))
	for range 400 {
		window := edgeWindows[r.Intn(len(edgeWindows))]
		l := anyFrames(r, window, 1+r.Intn(api.MaxHosts))
		want := compressed(t, window, l)
		orders(l, 1, func() {
			if got := compressed(t, window, l); got != want {
				t.Fatalf("%v is compressed to %v, in another order to %v", l, got, want)
			}
		})
	}
}

func TestNilP114(t *testing.T) {
	var c *Comp
	for range 2 {
		for _, local := range append(noLocals, -api.MaxTime, -1, 0, 1, api.MaxTime) {
			for _, f := range append(noFrames, from(0, 0), from(5, 3)) {
				wantAdd(t, c, local, f, 0, api.ErrArg)
			}
			wantNothing(t, c, local)
		}
		wantOpen(t, c, false)
	}
}

// What one collector is handed, another doesn't know of.
func TestApartR2(t *testing.T) {
	r := rand.New(rand.NewSource(114))
	var comps [4]*Comp
	var models [4]*model
	for i := range comps {
		comps[i], models[i] = compOf(t, edgeWindows[i]), &model{window: edgeWindows[i]}
	}
	for range 20000 {
		i := r.Intn(len(comps))
		step(t, r, comps[i], models[i], 500)
		for j := range comps {
			wantOpen(t, comps[j], len(models[j].frames) > 0)
		}
	}
}

package align

import (
	"math"
	"math/big"
	"math/rand"
	"slices"
	"testing"

	"tocsin/api"
	"tocsin/conf"
)

const least, greatest = math.MinInt64, math.MaxInt64

// noTimes are neither cycles nor local times: just beyond the edges, and far away.
var noTimes = []int64{least, least + 1, -api.MaxTime, -1, api.MaxTime + 1, greatest - 1, greatest}

// noFrames aren't right in one field each, or aren't a switch's to be heard, at the cycle 3.
var noFrames = []api.Control{
	{}, {From: 6, Cycle: 3, Crew: 7}, {Kind: 3, From: 6, Cycle: 3, Crew: 7}, {Kind: -1, From: 7, Cycle: 3, Crew: 7}, {Kind: 258, From: 6, Cycle: 3, Crew: 7},
	{Kind: 2, From: -1, Cycle: 3, Crew: 7}, {Kind: 2, From: 8, Cycle: 3, Crew: 7}, {Kind: 2, From: 262, Cycle: 3, Crew: 7},
	{Kind: 2, From: least, Cycle: 3, Crew: 7}, {Kind: 2, From: greatest, Cycle: 3, Crew: 7},
	{Kind: 2, From: 6, Cycle: -1, Crew: 7}, {Kind: 2, From: 6, Cycle: api.MaxTime + 1, Crew: 7}, {Kind: 2, From: 7, Cycle: least, Crew: 7}, {Kind: 2, From: 7, Cycle: greatest, Crew: 7},
	{Kind: 2, From: 6, Cycle: 3, Crew: 64}, {Kind: 2, From: 6, Cycle: 3, Crew: 71}, {Kind: 2, From: 7, Cycle: 3, Crew: math.MaxUint32},
	{Kind: 2, From: 6, Cycle: 3, Crew: 7, Clear: -1}, {Kind: 2, From: 6, Cycle: 3, Crew: 7, Clear: least},
	{Kind: 2, From: 6, Cycle: 3, Crew: 7, Clear: api.MaxDelay + 1}, {Kind: 2, From: 7, Cycle: 3, Crew: 7, Clear: greatest},
	{Kind: 1, From: 6, Cycle: 3, Crew: 7}, {Kind: 1, From: 7, Cycle: 3, Crew: 7}, {Kind: 1, From: 0, Cycle: 3, Crew: 7},
	{Kind: 2, From: 0, Cycle: 3, Crew: 7}, {Kind: 2, From: 5, Cycle: 3, Crew: 7},
	{Kind: 2, From: 6, Cycle: 3}, {Kind: 2, From: 7, Cycle: 3},
}

// netOf is a network without entries.
func netOf(cycle, delay, window, precision int64) api.Config {
	c := conf.Family(4, 0)
	c.Cycle, c.Delay, c.Window, c.Precision = cycle, delay, window, precision
	c.Delays = [][]int64{{0, delay}, {delay, 0}, {0, 0}, {delay, delay}}
	return c
}

// nets may be, each at another edge.
func nets() []api.Config {
	return []api.Config{
		conf.Family(4, 0),
		conf.Family(1, 0),
		conf.Family(6, 16),
		netOf(1, 0, 0, 0),
		netOf(1, api.MaxDelay, api.MaxDelay, api.MaxDelay),
		netOf(2, 0, 0, api.MaxDelay),
		netOf(3, 1, 0, 2),
		netOf(1000, 0, api.MaxDelay, 0),
		netOf(7777, api.MaxDelay, 0, 0),
		netOf(api.MaxCycle-1, 10, 3, 5),
		netOf(api.MaxCycle, 0, 0, 0),
		netOf(api.MaxCycle, 0, 0, api.MaxDelay),
		netOf(api.MaxCycle, api.MaxDelay, api.MaxDelay, api.MaxDelay),
	}
}

// from is a switch's frame of a cycle.
func from(number int, cycle int64, team uint32) api.Control {
	return api.Control{Kind: 2, From: number, Cycle: cycle, Crew: team}
}

func alignOf(t *testing.T, c api.Config) *Align {
	t.Helper()
	s, e := New(c)
	if s == nil || e != api.OK {
		t.Fatalf("New(%v) = %v, %d", c, s, e)
	}
	return s
}

func wantHear(t *testing.T, s *Align, cycle, local int64, f api.Control, want api.Errno) {
	t.Helper()
	if e := s.Hear(cycle, local, f); e != want {
		t.Errorf("Hear(%d, %d, %v) = %d, want %d", cycle, local, f, e, want)
	}
}

func wantClose(t *testing.T, s *Align, by int64, team uint32, n int) {
	t.Helper()
	if gotBy, gotTeam, gotN := s.Close(); gotBy != by || gotTeam != team || gotN != n {
		t.Errorf("Close = %d, %d, %d, want %d, %d, %d", gotBy, gotTeam, gotN, by, team, n)
	}
}

func wantExpected(t *testing.T, s *Align, cycle, want int64) {
	t.Helper()
	if got := s.Expected(cycle); got != want {
		t.Errorf("Expected(%d) = %d, want %d", cycle, got, want)
	}
}

func TestExamplesP121(t *testing.T) {
	s := alignOf(t, conf.Family(4, 0))
	wantExpected(t, s, 3, 6005000)
	if got := s.Accept(); got != 2000 {
		t.Errorf("Accept = %d", got)
	}
	wantHear(t, s, 3, 6005300, from(6, 3, 7), api.OK)
	wantHear(t, s, 3, 6004000, from(7, 3, 3), api.OK)
	wantClose(t, s, -300, 7, 2)
	wantHear(t, s, 3, 6007001, from(6, 3, 7), api.ErrRange)
	wantClose(t, s, 0, 0, 0)
}

// Each of the ten numbers of chapter 8 keeps a configuration from being one.
func TestNewP121(t *testing.T) {
	for i, spoil := range []func(c *api.Config){
		func(c *api.Config) { c.Hosts = 0 },
		func(c *api.Config) { c.Hosts = 7 },
		func(c *api.Config) { c.Cycle = 0 },
		func(c *api.Config) { c.Cycle = api.MaxCycle + 1 },
		func(c *api.Config) { c.Delay = -1 },
		func(c *api.Config) { c.Delay = api.MaxDelay + 1 },
		func(c *api.Config) { c.Window = -1 },
		func(c *api.Config) { c.Window = greatest },
		func(c *api.Config) { c.Precision = least },
		func(c *api.Config) { c.Precision = api.MaxDelay + 1 },
		func(c *api.Config) { c.Delays = nil },
		func(c *api.Config) { c.Delays[3][1] = c.Delay + 1 },
		func(c *api.Config) { c.Entries[2].Size = 63 },
		func(c *api.Config) { c.Entries[0].Phase = 6999 },
		func(c *api.Config) { c.Entries[1].From, c.Entries[1].To, c.Entries[1].Phase = 0, 2, c.Entries[0].Phase },
		func(c *api.Config) { c.Entries[1].Phase = c.Entries[0].Phase },
		func(c *api.Config) { c.Links = []api.Link{{From: 0, To: 2, Size: 64}} },
		func(c *api.Config) { c.Queue = 0 },
		func(c *api.Config) { c.Queue = 65 },
		func(c *api.Config) { *c = api.Config{} },
	} {
		c := conf.Family(4, 3)
		spoil(&c)
		if s, e := New(c); s != nil || e != api.ErrArg {
			t.Errorf("New with fault %d = %v, %d", i, s, e)
		}
	}
	for _, c := range nets() {
		wantClose(t, alignOf(t, c), 0, 0, 0)
	}
}

func TestExpectedP121(t *testing.T) {
	for _, c := range nets() {
		s := alignOf(t, c)
		behind := 2*c.Delay + c.Window
		for _, cycle := range append(noTimes, api.MaxTime/c.Cycle+1, 1<<34, 1<<33) {
			if cycle < 0 || cycle > api.MaxTime/c.Cycle {
				wantExpected(t, s, cycle, 0)
			}
		}
		for _, cycle := range []int64{0, 1, 2, 77, api.MaxTime/c.Cycle - 1, api.MaxTime / c.Cycle} {
			wantExpected(t, s, cycle, cycle*c.Cycle+behind)
		}
		if got, want := s.Accept(), c.Window+2*c.Precision; got != want {
			t.Errorf("Accept = %d, want %d", got, want)
		}
	}
	// The last cycle's frame may be expected beyond MaxTime.
	wantExpected(t, alignOf(t, netOf(api.MaxCycle, 7, 5, 0)), 1<<20, api.MaxTime+19)
}

// A frame is in time up to Accept ahead of when it is expected, and up to Accept behind.
func TestInTimeP121(t *testing.T) {
	for _, c := range nets() {
		s := alignOf(t, c)
		accept := c.Window + 2*c.Precision
		for _, cycle := range []int64{0, 1, 2, 5000, api.MaxTime/c.Cycle - 1, api.MaxTime / c.Cycle} {
			expected := cycle*c.Cycle + 2*c.Delay + c.Window
			for _, off := range []int64{-accept - c.Cycle, -accept - 1, -accept, -accept + 1, -1, 0, 1, accept - 1, accept, accept + 1, accept + c.Cycle} {
				local, want := expected+off, api.OK
				if off < -accept || off > accept {
					want = api.ErrRange
				}
				if local < 0 || local > api.MaxTime {
					want = api.ErrArg
				}
				wantHear(t, s, cycle, local, from(7, cycle, 4), want)
				if want == api.OK {
					wantClose(t, s, -off, 4, 1)
				}
				wantClose(t, s, 0, 0, 0)
			}
		}
	}
}

// A cycle may begin behind MaxTime, and yet its frame be in time ahead of that; Expected tells 0 of it all the same.
func TestBeyondTimeP121(t *testing.T) {
	const accept = 2 * api.MaxDelay
	for _, s := range []struct{ cycle, number, over int64 }{
		{2, api.MaxTime/2 + 1, 2},
		{2, api.MaxTime/2 + accept/2, accept},
		{3, api.MaxTime/3 + 1, 2},
		{accept - 1, api.MaxTime/(accept-1) + 1, accept - 1 - api.MaxTime%(accept-1)},
	} {
		a := alignOf(t, netOf(s.cycle, 0, 0, api.MaxDelay))
		f := from(6, s.number, 9)
		wantExpected(t, a, s.number, 0)
		wantHear(t, a, s.number, api.MaxTime, f, api.OK)
		wantClose(t, a, s.over, 9, 1)
		wantHear(t, a, s.number, api.MaxTime+s.over-accept, f, api.OK)
		wantClose(t, a, accept, 9, 1)
		wantHear(t, a, s.number, api.MaxTime+s.over-accept-1, f, api.ErrRange)
		wantHear(t, a, s.number, api.MaxTime+1, f, api.ErrArg)
		wantClose(t, a, 0, 0, 0)
	}
	a := alignOf(t, netOf(2, 0, 0, api.MaxDelay))
	far := int64(api.MaxTime/2 + accept/2 + 1)
	wantHear(t, a, far, api.MaxTime, from(6, far, 9), api.ErrRange)
}

// A cycle that begins beyond 64 bits isn't taken for one that begins early.
func TestFarCyclesP121(t *testing.T) {
	for _, c := range nets() {
		a := alignOf(t, c)
		for _, cycle := range []int64{1<<33 - 1, 1 << 33, 1<<33 + 1, 1<<34 - 1, 1 << 34, 1<<34 + 3, 1 << 35, 3 << 40, api.MaxTime - 1, api.MaxTime} {
			m := model{c: c}
			for _, local := range []int64{0, 1, 2*c.Delay + c.Window, cycle * c.Cycle, cycle*c.Cycle + 2*c.Delay + c.Window, api.MaxTime} {
				wantHear(t, a, cycle, local, from(6, cycle, 1), m.hear(cycle, local, from(6, cycle, 1)))
				by, team, n := m.close()
				wantClose(t, a, by, team, n)
			}
		}
	}
}

// What is refused for more than one reason is refused for the one that is named first, and leaves nothing behind.
func TestHearRefusesP121(t *testing.T) {
	s := alignOf(t, conf.Family(4, 0))
	right, late := int64(6005000), int64(6007001)
	refuseAll := func() {
		t.Helper()
		for _, f := range noFrames {
			for _, local := range append(noTimes, 0, right, late) {
				for _, cycle := range append(noTimes, 3, 4) {
					wantHear(t, s, cycle, local, f, api.ErrArg)
				}
			}
		}
		for _, number := range []int{6, 7} {
			for _, n := range noTimes {
				wantHear(t, s, 3, n, from(number, 3, 7), api.ErrArg)
				wantHear(t, s, n, right, from(number, 3, 7), api.ErrArg)
				wantHear(t, s, n, n, from(number, 3, 7), api.ErrArg)
			}
		}
	}
	refuseAll()
	wantClose(t, s, 0, 0, 0)
	for _, number := range []int{6, 7} {
		wantHear(t, s, 3, late, from(number, 3, 63), api.ErrRange)
		wantHear(t, s, 3, right, from(number, 4, 63), api.ErrRange)
		wantHear(t, s, 4, right, from(number, 3, 63), api.ErrRange)
		wantHear(t, s, 4, 8005000, from(number, 3, 63), api.ErrRange)
	}
	wantHear(t, s, 3, right, from(7, 3, 1), api.OK)
	refuseAll()
	wantHear(t, s, 3, right, from(7, 3, 1), api.ErrThere)
	wantHear(t, s, 3, right, api.Control{Kind: 2, From: 7, Cycle: 3, Crew: 63, Clear: 9}, api.ErrThere)
	wantHear(t, s, 3, late, from(7, 3, 63), api.ErrThere) // not ErrRange
	wantHear(t, s, 4, right, from(7, 3, 63), api.ErrThere)
	wantHear(t, s, 4, 8005000, from(7, 4, 63), api.ErrThere)
	wantHear(t, s, 3, late, from(6, 3, 63), api.ErrRange)
	wantClose(t, s, 0, 1, 1)
}

// What was heard ahead of a Close isn't known behind it.
func TestAgainP121(t *testing.T) {
	s := alignOf(t, conf.Family(4, 0))
	wantHear(t, s, 3, 6005001, from(6, 3, 63), api.OK)
	wantHear(t, s, 3, 6005002, from(7, 3, 31), api.OK)
	wantClose(t, s, -1, 63, 2)
	wantClose(t, s, 0, 0, 0)
	wantHear(t, s, 3, 6005003, from(7, 3, 1), api.OK)
	wantClose(t, s, -3, 1, 1)
	wantHear(t, s, 3, 6005004, from(6, 3, 2), api.OK)
	wantHear(t, s, 3, 6005005, from(7, 3, 1), api.OK)
	wantClose(t, s, -4, 2, 2)
	wantHear(t, s, 0, 5000, from(6, 0, 4), api.OK)
	wantClose(t, s, 0, 4, 1)
}

// Frames of unlike cycles may be heard ahead of one Close: the best one's cycle counts.
func TestCyclesP121(t *testing.T) {
	s := alignOf(t, conf.Family(4, 0))
	wantHear(t, s, 3, 6005001, from(6, 3, 1), api.OK)
	wantHear(t, s, 9, 18004900, from(7, 9, 3), api.OK)
	wantClose(t, s, 100, 3, 2)
	wantHear(t, s, 9, 18004900, from(7, 9, 3), api.OK)
	wantHear(t, s, 3, 6005001, from(6, 3, 12), api.OK)
	wantClose(t, s, -1, 12, 2)
}

// Of any two crews, heard in either order, the one of more hosts is the best, and of as many that of the lesser switch.
func TestBestP121(t *testing.T) {
	s := alignOf(t, conf.Family(6, 0))
	for a := uint32(1); a < 64; a++ {
		for b := uint32(1); b < 64; b++ {
			by, team := int64(-10), a
			if hostsOf(b) > hostsOf(a) {
				by, team = 20, b
			}
			wantHear(t, s, 0, 5010, from(6, 0, a), api.OK)
			wantHear(t, s, 0, 4980, from(7, 0, b), api.OK)
			wantClose(t, s, by, team, 2)
			wantHear(t, s, 0, 4980, from(7, 0, b), api.OK)
			wantHear(t, s, 0, 5010, from(6, 0, a), api.OK)
			wantClose(t, s, by, team, 2)
		}
		wantHear(t, s, 0, 5010, from(6, 0, a), api.OK)
		wantClose(t, s, -10, a, 1)
		wantHear(t, s, 0, 4980, from(7, 0, a), api.OK)
		wantClose(t, s, 20, a, 1)
	}
}

// A right frame's Clear tells nothing here, nor how many hosts the configuration has.
func TestFramesP121(t *testing.T) {
	for hosts := 1; hosts <= api.MaxHosts; hosts++ {
		s := alignOf(t, conf.Family(hosts, 0))
		for _, spent := range []int64{0, 1, 2000, api.MaxDelay} {
			for _, team := range []uint32{1, 32, 62, 63} {
				wantHear(t, s, 2, 4004990, api.Control{Kind: 2, From: 7, Cycle: 2, Crew: team, Clear: spent}, api.OK)
				wantClose(t, s, 10, team, 1)
			}
		}
	}
}

// stamped is a frame, and when it was permanent.
type stamped struct {
	local int64
	f     api.Control
}

// model hears as the chapter words it: the frames in the order of their coming, and numbers without bounds.
type model struct {
	c      api.Config
	frames []stamped
}

// hostsOf is how many hosts are in a crew.
func hostsOf(team uint32) int {
	n := 0
	for ; team > 0; team /= 2 {
		n += int(team % 2)
	}
	return n
}

// due is when a cycle's frame is expected.
func (m *model) due(cycle int64) *big.Int {
	begin := new(big.Int).Mul(big.NewInt(cycle), big.NewInt(m.c.Cycle))
	return begin.Add(begin, big.NewInt(2*m.c.Delay+m.c.Window))
}

// by is how far a frame is ahead of when it is expected.
func (m *model) by(s stamped) *big.Int {
	due := m.due(s.f.Cycle)
	return due.Sub(due, big.NewInt(s.local))
}

func (m *model) accept() int64 { return m.c.Window + 2*m.c.Precision }

func (m *model) hear(cycle, local int64, f api.Control) api.Errno {
	right := f.Kind == 2 && (f.From == 6 || f.From == 7) && f.Cycle >= 0 && f.Cycle <= 1<<50 && f.Crew > 0 && f.Crew < 64 && f.Clear >= 0 && f.Clear <= 1<<20
	if !right || cycle < 0 || cycle > 1<<50 || local < 0 || local > 1<<50 {
		return api.ErrArg
	}
	if slices.ContainsFunc(m.frames, func(s stamped) bool { return s.f.From == f.From }) {
		return api.ErrThere
	}
	s := stamped{local, f}
	if f.Cycle != cycle || m.by(s).CmpAbs(big.NewInt(m.accept())) > 0 {
		return api.ErrRange
	}
	m.frames = append(m.frames, s)
	return api.OK
}

func (m *model) close() (int64, uint32, int) {
	n := len(m.frames)
	if n == 0 {
		return 0, 0, 0
	}
	best := slices.MinFunc(m.frames, func(a, b stamped) int {
		if n := hostsOf(b.f.Crew) - hostsOf(a.f.Crew); n != 0 {
			return n
		}
		return a.f.From - b.f.From
	})
	m.frames = nil
	return m.by(best).Int64(), best.f.Crew, n
}

func (m *model) expected(cycle int64) int64 {
	if cycle < 0 || cycle > api.MaxTime/m.c.Cycle {
		return 0
	}
	return m.due(cycle).Int64()
}

// anyCycle is a cycle near to the edges of cycles and times, or to 0, or anywhere.
func anyCycle(r *rand.Rand, c api.Config) int64 {
	far := r.Int63n(api.MaxTime+1) >> r.Intn(51)
	switch r.Intn(5) {
	case 0:
		return far
	case 1:
		return api.MaxTime - far
	case 2:
		return far / c.Cycle
	}
	return max(0, api.MaxTime/c.Cycle+r.Int63n(9)-6)
}

// anyLocal is a local time about that at which a cycle's frame is expected, now and then just out of time.
func anyLocal(r *rand.Rand, m *model, cycle int64) int64 {
	due := m.due(cycle)
	off := r.Int63n(m.accept()+1) >> r.Intn(8)
	if r.Intn(4) == 0 {
		off = m.accept() + r.Int63n(4) - 1
	}
	if r.Intn(2) == 0 {
		off = -off
	}
	if due.Cmp(big.NewInt(2*api.MaxTime)) > 0 {
		return r.Int63n(api.MaxTime + 1)
	}
	local := due.Int64() + off
	if r.Intn(8) > 0 {
		local = min(max(local, 0), api.MaxTime)
	}
	return local
}

// anyFrame is a switch's frame of a cycle, mostly.
func anyFrame(r *rand.Rand, cycle int64) api.Control {
	switch r.Intn(20) {
	case 0:
		return noFrames[r.Intn(len(noFrames))]
	case 1:
		cycle = max(0, cycle+r.Int63n(3)-1)
	}
	return api.Control{Kind: 2, From: 6 + r.Intn(2), Cycle: cycle, Crew: uint32(1 + r.Intn(63)), Clear: r.Int63n(api.MaxDelay + 1)}
}

// step does one call to both the host and the model, about a cycle.
func step(t *testing.T, r *rand.Rand, s *Align, m *model, cycle int64) {
	t.Helper()
	switch r.Intn(8) {
	case 0:
		by, team, n := m.close()
		wantClose(t, s, by, team, n)
	case 1:
		wantExpected(t, s, cycle, m.expected(cycle))
	default:
		f, local := anyFrame(r, cycle), anyLocal(r, m, cycle)
		if r.Intn(40) == 0 {
			local = noTimes[r.Intn(len(noTimes))]
		}
		if r.Intn(40) == 0 {
			cycle = noTimes[r.Intn(len(noTimes))]
		}
		wantHear(t, s, cycle, local, f, m.hear(cycle, local, f))
	}
	if got := s.Accept(); got != m.accept() {
		t.Errorf("Accept = %d, want %d", got, m.accept())
	}
	if t.Failed() {
		t.Fatalf("in the network %v", m.c)
	}
}

// anyNet is a network of any times, now and then at their edges.
func anyNet(r *rand.Rand) api.Config {
	if l := nets(); r.Intn(2) == 0 {
		return l[r.Intn(len(l))]
	}
	upTo := func(most int64) int64 { return r.Int63n(most+1) >> r.Intn(21) }
	return netOf(1+upTo(api.MaxCycle-1), upTo(api.MaxDelay), upTo(api.MaxDelay), upTo(api.MaxDelay))
}

func TestScriptsP121(t *testing.T) {
	r := rand.New(rand.NewSource(121))
	for range 1500 {
		c := anyNet(r)
		s, m := alignOf(t, c), &model{c: c}
		cycle := anyCycle(r, c)
		for range 200 {
			step(t, r, s, m, cycle)
			if r.Intn(4) == 0 {
				cycle = anyCycle(r, c)
			}
		}
	}
}

// Whatever is heard, and wherever: by is no further from 0 than Accept.
func TestBoundedP122(t *testing.T) {
	r := rand.New(rand.NewSource(122))
	heard := 0
	for range 2000 {
		c := anyNet(r)
		s, m := alignOf(t, c), &model{c: c}
		for range 50 {
			for range 1 + r.Intn(3) {
				cycle := anyCycle(r, c)
				s.Hear(cycle, anyLocal(r, m, cycle), anyFrame(r, cycle))
			}
			by, _, n := s.Close()
			if by < -s.Accept() || by > s.Accept() || n < 0 || n > api.Switches {
				t.Fatalf("Close = %d, of %d frames, where Accept is %d", by, n, s.Accept())
			}
			heard += n
		}
	}
	if heard < 50000 {
		t.Errorf("only %d frames were heard", heard)
	}
}

// Two hosts hear one frame as their best, each in its own company, and show the same behind their settings.
func TestTogetherP123(t *testing.T) {
	r := rand.New(rand.NewSource(123))
	for range 20000 {
		c := anyNet(r)
		one, two := alignOf(t, c), alignOf(t, c)
		cycle := r.Int63n(api.MaxTime/c.Cycle) >> r.Intn(30)
		expected := one.Expected(cycle)
		first := expected + r.Int63n(one.Accept()+1)*int64(1-r.Intn(2)*2)
		// The other shows another time, by at most Accept, and yet the frame is in time there.
		apart := r.Int63n(one.Accept()+1) * int64(1-r.Intn(2)*2)
		second := min(max(first+apart, expected-one.Accept()), expected+one.Accept())
		if min(first, second) < 0 || max(first, second) > api.MaxTime {
			continue
		}
		best := from(6, cycle, 63)
		wantHear(t, one, cycle, first, best, api.OK)
		wantHear(t, two, cycle, second, best, api.OK)
		if r.Intn(2) == 0 {
			wantHear(t, one, cycle, min(max(expected, 0), api.MaxTime), from(7, cycle, 63), api.OK)
		}
		byOne, _, _ := one.Close()
		byTwo, _, _ := two.Close()
		if first+byOne != second+byTwo {
			t.Fatalf("at %d and %d set by %d and %d", first, second, byOne, byTwo)
		}
	}
}

func TestNilP124(t *testing.T) {
	var s *Align
	for range 2 {
		for _, n := range append(noTimes, 0, 3, 5000, api.MaxTime) {
			wantExpected(t, s, n, 0)
			for _, f := range append(noFrames, from(6, n, 1), from(7, 3, 63)) {
				wantHear(t, s, n, 6005000, f, api.ErrArg)
				wantHear(t, s, 3, n, f, api.ErrArg)
			}
			wantClose(t, s, 0, 0, 0)
		}
		if got := s.Accept(); got != 0 {
			t.Errorf("Accept = %d, want 0", got)
		}
	}
}

// What one host is handed, another doesn't know of.
func TestApartR2(t *testing.T) {
	r := rand.New(rand.NewSource(124))
	c := conf.Family(4, 0)
	var hosts [4]*Align
	var models [4]*model
	for i := range hosts {
		hosts[i], models[i] = alignOf(t, c), &model{c: c}
	}
	for range 20000 {
		i := r.Intn(len(hosts))
		step(t, r, hosts[i], models[i], 3)
	}
}

// New leaves its configuration as it is, and what becomes of that later tells nothing.
func TestMemoryR3(t *testing.T) {
	c := conf.Family(4, 3)
	s := alignOf(t, c)
	if !conf.Equal(c, conf.Family(4, 3)) {
		t.Errorf("New changed its configuration to %v", c)
	}
	c.Delays[0][0], c.Delays[1] = -1, nil
	c.Entries[0] = api.Entry{}
	c.Cycle, c.Delay = 1, 0
	wantExpected(t, s, 3, 6005000)
	wantHear(t, s, 3, 6004000, from(7, 3, 3), api.OK)
	wantClose(t, s, 1000, 3, 1)
}

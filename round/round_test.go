package round

import (
	"math"
	"math/bits"
	"math/rand"
	"reflect"
	"slices"
	"sort"
	"testing"

	"tocsin/api"
	"tocsin/conf"
)

const (
	maxTime = 1 << 50
	maxRho  = 1000000
)

// shows is what a clock shows at a time of its mark or later.
func shows(s State, t int64) int64 {
	whole, rest := (t-s.T)/1e9, (t-s.T)%1e9
	part := rest * s.Rate
	floor := part / 1e9
	if part%1e9 < 0 {
		floor--
	}
	return s.Base + (t - s.T) + whole*s.Rate + floor
}

// when is the first time at which a clock shows a number, looked for among all times.
func when(s State, shown int64) (int64, bool) {
	t := s.T + int64(sort.Search(int(maxTime-s.T+1), func(i int) bool { return shows(s, s.T+int64(i)) >= shown }))
	return t, t <= maxTime
}

// model is a round in the chapter's words.
type model struct {
	c      api.Config
	begin  int64
	clocks []State
	lost   Loss
	points [2]int64
	told   Told
}

func modelOf(c api.Config, cycle int64, clocks []State, lost Loss) *model {
	m := &model{c: c, begin: cycle * c.Cycle, clocks: clocks, lost: lost}
	for _, s := range clocks {
		t, ok := when(s, m.begin)
		if !ok {
			t = -1
		}
		m.told.Sent = append(m.told.Sent, t)
	}
	m.collect(0)
	m.collect(1)
	for h := range clocks {
		m.hear(h)
	}
	return m
}

// collect goes through the moments of the window, not through the frames in their order.
func (m *model) collect(w int) {
	first := int64(math.MaxInt64)
	comes := func(h int) (int64, bool) {
		at := m.told.Sent[h] + m.c.Delay
		return at, m.told.Sent[h] >= 0 && at <= maxTime && m.lost.Up[w]>>h&1 == 0
	}
	for h := range m.clocks {
		if at, ok := comes(h); ok {
			first = min(first, at)
		}
	}
	var readings []int
	for h := range m.clocks {
		if at, ok := comes(h); ok && at-first <= m.c.Window {
			readings = append(readings, int(at-first))
			m.told.Crews[w] |= 1 << h
		}
	}
	sort.Ints(readings)
	if n := len(readings); n > 2 {
		readings = readings[1 : n-1]
	}
	if n := len(readings); n > 0 {
		m.points[w] = first + int64(readings[0]+readings[n-1])/2
	}
}

func (m *model) hear(h int) {
	s, expected, accept := m.clocks[h], m.begin+2*m.c.Delay+m.c.Window, m.c.Window+2*m.c.Precision
	by, heard, most := int64(0), 0, 0
	for w, team := range m.told.Crews {
		there := m.points[w] + m.c.Window + m.c.Delays[h][w]
		if m.told.Sent[h] < 0 || team == 0 || m.lost.Down[w]>>h&1 == 1 || there < s.T || there > maxTime {
			continue
		}
		due, ok := when(s, shows(s, there)+m.c.Delay-m.c.Delays[h][w])
		if !ok {
			continue
		}
		local := shows(s, due)
		if local < 0 || local > maxTime || local < expected-accept || local > expected+accept {
			continue
		}
		heard++
		if n := bits.OnesCount32(team); n > most {
			most, by = n, expected-local
		}
	}
	if t, ok := when(s, expected+accept+1); ok && heard > 0 {
		s.T, s.Base = t, shows(s, t)+by
	}
	m.told.By = append(m.told.By, by)
	m.told.Heard = append(m.told.Heard, heard)
	m.told.After = append(m.told.After, s)
}

// netOf is a network without entries, with links of all delays up to the greatest.
func netOf(hosts int, cycle, delay, window, precision int64) api.Config {
	c := conf.Family(hosts, 0)
	c.Cycle, c.Delay, c.Window, c.Precision = cycle, delay, window, precision
	for h := range c.Delays {
		c.Delays[h] = []int64{delay * int64(h) / 5, delay - delay*int64(h)/7}
	}
	return c
}

func pick[T any](r *rand.Rand, l ...T) T { return l[r.Intn(len(l))] }

// spread is a number from -n to n, often an end or the middle.
func spread(r *rand.Rand, n int64) int64 { return pick(r, -n, n, 0, r.Int63n(2*n+1)-n) }

// anyNet is a network that may be.
func anyNet(t *testing.T, r *rand.Rand) api.Config {
	c := conf.Family(1+r.Intn(6), r.Intn(17))
	if r.Intn(4) > 0 {
		c = netOf(1+r.Intn(6),
			pick(r, 1, 2, 1000, 99999, 2000000, api.MaxCycle, 1+r.Int63n(api.MaxCycle)),
			pick(r, 0, 1, 10, 2000, api.MaxDelay, r.Int63n(5000)),
			pick(r, 0, 1, 10, 1000, api.MaxDelay, r.Int63n(3000)),
			pick(r, 0, 1, 10, 500, api.MaxDelay, r.Int63n(2000)))
	}
	for _, row := range c.Delays {
		for w := range row {
			row[w] = pick(r, 0, c.Delay, r.Int63n(c.Delay+1))
		}
	}
	if conf.Check(c) != 0 {
		t.Fatal("no configuration", c)
	}
	return c
}

func anyCycle(r *rand.Rand, c api.Config) int64 {
	last := maxTime / (2 * c.Cycle)
	return pick(r, 0, 1, 2, last, r.Int63n(min(last, 1000)+1), r.Int63n(last+1))
}

// anyClocks are clocks that begin the cycle some way apart, about one time; now and then one is far off.
func anyClocks(r *rand.Rand, c api.Config, cycle int64, rho int64) []State {
	begin := cycle * c.Cycle
	about := pick(r, 0, 1000, begin, begin, 1<<40, maxTime-2*c.Delay-c.Window, maxTime-r.Int63n(4*(c.Delay+c.Window+c.Precision)+10), r.Int63n(maxTime))
	wide := pick(r, 0, 1, c.Window/2+1, c.Window+1, c.Window+2*c.Precision+2)
	since := pick(r, 0, 1, c.Cycle, 1000000, r.Int63n(maxTime/2))
	var clocks []State
	for range c.Hosts {
		s := State{T: about + spread(r, wide) - r.Int63n(since+1), Rate: spread(r, rho)}
		s.T = min(max(s.T, 0), maxTime)
		s.Base = begin - max(about-s.T+spread(r, wide), 0)
		if r.Intn(40) == 0 {
			s = State{T: r.Int63n(maxTime + 1), Base: spread(r, maxTime), Rate: spread(r, maxRho)}
		}
		s.Base = min(max(s.Base, -maxTime), begin)
		clocks = append(clocks, s)
	}
	return clocks
}

func anyLoss(r *rand.Rand) Loss {
	var l Loss
	for w := range 2 {
		l.Up[w] = pick(r, 0, 0, r.Uint32()&r.Uint32(), r.Uint32(), 0xffffffc0)
		l.Down[w] = pick(r, 0, 0, r.Uint32()&r.Uint32(), r.Uint32(), 0xffffffc0)
	}
	return l
}

func goes(t *testing.T, c api.Config, cycle int64, clocks []State, lost Loss) Told {
	t.Helper()
	told, e := Go(c, cycle, clocks, lost)
	if e != api.OK {
		t.Fatal(c, cycle, clocks, lost, "is refused", e)
	}
	return told
}

// wants holds a round against what it should tell.
func wants(t *testing.T, c api.Config, cycle int64, clocks []State, lost Loss, want Told) {
	t.Helper()
	if told := goes(t, c, cycle, clocks, lost); !reflect.DeepEqual(told, want) {
		t.Error(c, cycle, clocks, lost, "\ntold", told, "\nwant", want)
	}
}

// refuses holds that a round is refused, and Run with it.
func refuses(t *testing.T, c api.Config, cycle int64, clocks []State) {
	t.Helper()
	if told, e := Go(c, cycle, clocks, Loss{}); e != api.ErrArg || !reflect.DeepEqual(told, Told{}) {
		t.Error(c, cycle, clocks, told, e)
	}
	if told, e := Run(c, cycle, clocks, make([]Loss, 2)); e != api.ErrArg || len(told) != 0 {
		t.Error(c, cycle, clocks, told, e)
	}
}

func TestExamplesP201(t *testing.T) {
	c := conf.Family(2, 0)
	wants(t, c, 1, []State{{}, {}}, Loss{}, Told{Sent: []int64{2000000, 2000000}, Crews: [2]uint32{3, 3}, By: []int64{0, 0}, Heard: []int{2, 2},
		After: []State{{T: 2007001, Base: 2007001}, {T: 2007001, Base: 2007001}}})
	apart := []State{{Base: 300}, {}}
	wants(t, c, 1, apart, Loss{}, Told{Sent: []int64{1999700, 2000000}, Crews: [2]uint32{3, 3}, By: []int64{-150, 150}, Heard: []int{2, 2},
		After: []State{{T: 2006701, Base: 2006851}, {T: 2007001, Base: 2007151}}})
	if d, ok := Spread(goes(t, c, 1, apart, Loss{}).After, 2007001); d != 0 || !ok {
		t.Error(d, ok)
	}
}

// Random rounds on random networks tell what the model tells; all that can come of a round does come about.
func TestGoP201(t *testing.T) {
	r := rand.New(rand.NewSource(1))
	seen := map[string]int{}
	for range 20000 {
		c := anyNet(t, r)
		cycle := anyCycle(r, c)
		clocks := anyClocks(r, c, cycle, maxRho)
		lost := anyLoss(r)
		told, want := goes(t, c, cycle, clocks, lost), modelOf(c, cycle, clocks, lost).told
		if !reflect.DeepEqual(told, want) {
			t.Fatal(c, cycle, clocks, lost, "\ntold", told, "\nwant", want)
		}
		count(seen, clocks, told)
	}
	for _, what := range []string{"all alike", "unlike crews", "no crew", "no part", "heard 0", "heard 1", "heard 2", "set on", "set back", "stays"} {
		if seen[what] < 200 {
			t.Error("seldom:", what, seen[what])
		}
	}
}

func count(seen map[string]int, clocks []State, told Told) {
	if told.Crews[0] != told.Crews[1] {
		seen["unlike crews"]++
	} else {
		seen["all alike"]++
	}
	if told.Crews[0] == 0 {
		seen["no crew"]++
	}
	for h, s := range clocks {
		seen["heard "+string(rune('0'+told.Heard[h]))]++
		switch {
		case told.Sent[h] < 0:
			seen["no part"]++
		case told.Heard[h] > 0 && told.After[h] == s:
			seen["stays"]++
		case told.By[h] > 0:
			seen["set on"]++
		case told.By[h] < 0:
			seen["set back"]++
		}
	}
}

// What is at the end of the window is collected, what is behind it isn't, and begins nothing either.
func TestWindowP201(t *testing.T) {
	c := conf.Family(4, 0)
	for _, x := range []struct {
		behind int64
		crew   uint32
		by     [4]int64
		heard  int
	}{
		{0, 15, [4]int64{}, 2},
		{1, 15, [4]int64{0, 0, 1, 1}, 2}, // half of 0 and 1, downwards
		{2, 15, [4]int64{-1, -1, 1, 1}, 2},
		{1000, 15, [4]int64{-500, -500, 500, 500}, 2},
		{1001, 3, [4]int64{0, 0, 1001, 1001}, 2},
		{2000, 3, [4]int64{0, 0, 2000, 2000}, 2},
		{2001, 3, [4]int64{}, 0},
		{5000, 3, [4]int64{}, 0},
	} {
		told := goes(t, c, 3, []State{{}, {}, {Base: -x.behind}, {Base: -x.behind}}, Loss{})
		if told.Crews != [2]uint32{x.crew, x.crew} || [4]int64(told.By) != x.by || told.Heard[0] != 2 || told.Heard[3] != x.heard {
			t.Error(x, told)
		}
	}
}

// One far off pulls the others nowhere, if they are two at least.
func TestPointP201(t *testing.T) {
	c := conf.Family(3, 0)
	for _, x := range []struct{ bases, by [3]int64 }{
		{[3]int64{0, 0, -1000}, [3]int64{0, 0, 1000}},
		{[3]int64{1000, 0, 0}, [3]int64{-1000, 0, 0}},
		{[3]int64{0, -900, -10}, [3]int64{-10, 890, 0}},
	} {
		told := goes(t, c, 1, []State{{Base: x.bases[0]}, {Base: x.bases[1]}, {Base: x.bases[2]}}, Loss{})
		if told.Crews != [2]uint32{7, 7} || [3]int64(told.By) != x.by {
			t.Error(x, told)
		}
	}
}

// Each loss is one frame's between one host and one switch, one way.
func TestLossP201(t *testing.T) {
	c := conf.Family(6, 0)
	clocks := make([]State, 6)
	for w := range 2 {
		for team := range uint32(64) {
			for _, high := range []uint32{0, 1 << 6, 0xffffffc0} { // bits that mean nothing
				var up, down Loss
				up.Up[w], down.Down[w] = team|high, team|high
				a, b := goes(t, c, 2, clocks, up), goes(t, c, 2, clocks, down)
				if a.Crews[w] != 63&^team || a.Crews[1-w] != 63 || b.Crews != [2]uint32{63, 63} {
					t.Error(w, team, a, b)
				}
				for h := range 6 {
					if heard := 2 - int(team>>h&1); b.Heard[h] != heard {
						t.Error(w, team, h, b)
					}
					if heard := 2 - int((team+1)>>6); a.Heard[h] != heard {
						t.Error(w, team, h, a)
					}
				}
			}
		}
	}
	all := Loss{Up: [2]uint32{63, math.MaxUint32}}
	wants(t, c, 2, clocks, all, Told{Sent: slices.Repeat([]int64{4000000}, 6), By: make([]int64, 6), Heard: make([]int, 6), After: clocks})
}

// Of unlike results the one with more hosts is taken, of like ones that of switch 0.
func TestBestP201(t *testing.T) {
	c := conf.Family(4, 0)
	clocks := []State{{Base: 400}, {Base: 300}, {Base: 100}, {}}
	for _, x := range []struct {
		up [2]uint32
		by int64 // of host 3
	}{
		{[2]uint32{0, 0}, 200},
		{[2]uint32{1, 0}, 200}, // 1 to 3 give 100, all of them 200
		{[2]uint32{0, 1}, 200},
		{[2]uint32{1, 8}, 100},
		{[2]uint32{8, 1}, 300},
		{[2]uint32{9, 2}, 100}, // three of switch 1 against two
		{[2]uint32{7, 1}, 100},
		{[2]uint32{12, 3}, 350},
		{[2]uint32{3, 12}, 50},
		{[2]uint32{15, 7}, 0},
		{[2]uint32{14, 15}, 400},
	} {
		told := goes(t, c, 1, clocks, Loss{Up: x.up})
		if told.Crews != [2]uint32{15 &^ x.up[0], 15 &^ x.up[1]} || told.By[3] != x.by {
			t.Error(x, told)
		}
	}
	deaf := goes(t, c, 1, clocks, Loss{Up: [2]uint32{1, 8}, Down: [2]uint32{8, 4}})
	if deaf.By[3] != 300 || deaf.Heard[3] != 1 || deaf.By[2] != 0 || deaf.Heard[2] != 1 || deaf.Heard[0] != 2 {
		t.Error(deaf)
	}
}

// A host whose clock never shows the cycle's beginning takes no part, though it would hear.
func TestNoPartP201(t *testing.T) {
	c := conf.Family(3, 0)
	never := []State{{T: maxTime}, {T: maxTime - 1999999}, {T: 0, Base: -maxTime}, {T: maxTime / 2, Base: -maxTime/2 + 2000000 - 1}, {T: maxTime, Base: 1999999, Rate: maxRho}}
	for _, s := range never {
		wants(t, c, 1, []State{{}, s, {}}, Loss{}, Told{Sent: []int64{2000000, -1, 2000000}, Crews: [2]uint32{5, 5}, By: make([]int64, 3), Heard: []int{2, 0, 2},
			After: []State{{T: 2007001, Base: 2007001}, s, {T: 2007001, Base: 2007001}}})
		wants(t, c, 1, []State{s, s, s}, Loss{}, Told{Sent: []int64{-1, -1, -1}, By: make([]int64, 3), Heard: make([]int, 3), After: []State{s, s, s}})
	}
	last := State{T: maxTime - 2000000}
	if told := goes(t, c, 1, []State{last, {}, {T: maxTime, Base: 2000000}}, Loss{}); !slices.Equal(told.Sent, []int64{maxTime, 2000000, maxTime}) || told.Crews != [2]uint32{2, 2} {
		t.Error(told)
	}
}

// Near the end of time less and less comes about.
func TestMaxTimeP201(t *testing.T) {
	c := conf.Family(1, 0)
	for _, x := range []struct {
		left  int64
		crew  uint32
		heard int
		set   bool
	}{
		{7001, 1, 2, true},
		{7000, 1, 2, false},
		{5000, 1, 2, false},
		{4999, 1, 0, false},
		{3151, 1, 0, false},
		{2000, 1, 0, false},
		{1999, 0, 0, false},
		{0, 0, 0, false},
	} {
		s := State{T: maxTime - x.left, Base: 2000000}
		want := Told{Sent: []int64{s.T}, Crews: [2]uint32{x.crew, x.crew}, By: []int64{0}, Heard: []int{x.heard}, After: []State{s}}
		if x.set {
			want.After = []State{{T: maxTime, Base: 2007001}}
		}
		wants(t, c, 1, []State{s}, Loss{}, want)
	}
	// What is told of a clock that can't be set any more is what it heard.
	d := conf.Family(2, 0)
	clocks := []State{{T: maxTime - 7100, Base: 2000000}, {T: maxTime - 7000, Base: 2000000}}
	wants(t, d, 1, clocks, Loss{}, Told{Sent: []int64{maxTime - 7100, maxTime - 7000}, Crews: [2]uint32{3, 3}, By: []int64{-50, 50}, Heard: []int{2, 2},
		After: []State{{T: maxTime - 99, Base: 2006951}, clocks[1]}})
	// Frames that are too late for time itself are refused, those ahead of them aren't.
	clocks = []State{{T: maxTime - 2000, Base: 2000000}, {T: maxTime - 1999, Base: 2000000}}
	if told := goes(t, d, 1, clocks, Loss{}); told.Crews != [2]uint32{1, 1} {
		t.Error(told)
	}
}

// A frame that reaches a host ahead of its clock's mark isn't heard.
func TestMarkP201(t *testing.T) {
	c := conf.Family(2, 0)
	c.Precision = 100000
	first := State{T: 5000, Base: 2000000}
	for _, x := range []struct {
		mark  int64
		heard int
	}{{5000 + 3200, 2}, {5000 + 3201, 1}, {5000 + 3250, 1}, {5000 + 3251, 0}} {
		told := goes(t, c, 1, []State{first, {T: x.mark, Base: 2000000}}, Loss{})
		if told.Crews != [2]uint32{1, 1} || told.Sent[1] != x.mark || told.Heard[0] != 2 || told.Heard[1] != x.heard {
			t.Error(x, told)
		}
	}
}

// How far from what is expected a frame may be, on both sides.
func TestAcceptP201(t *testing.T) {
	c := conf.Family(2, 0)
	l := Loss{Up: [2]uint32{2, 2}} // so that host 0 alone tells the time
	for _, x := range []struct {
		base  int64
		heard int
	}{{-2001, 0}, {-2000, 2}, {0, 2}, {2000, 2}, {2001, 0}} {
		s := State{Base: x.base}
		want := s
		by := int64(0)
		if x.heard > 0 {
			by, want = -x.base, State{T: 6007001 - x.base, Base: 6007001 - x.base}
		}
		told := goes(t, c, 3, []State{{}, s}, l)
		if told.Crews != [2]uint32{1, 1} || told.Heard[1] != x.heard || told.By[1] != by || told.After[1] != want || told.Sent[1] != 6000000-x.base {
			t.Error(x, told)
		}
	}
}

// Clocks that don't run right: what is told is reckoned by hand.
func TestRatesP201(t *testing.T) {
	c := conf.Family(1, 0) // delays 100 and 150
	// It shows 2000000 at 1998002, so the switches send at 2001002. At 2001102 it shows 2003103, and 1900 more at 2003000; at 2001152 and with 1850 it is the same.
	fast := State{Rate: maxRho}
	wants(t, c, 1, []State{fast}, Loss{}, Told{Sent: []int64{1998002}, Crews: [2]uint32{1, 1}, By: []int64{-3}, Heard: []int{2},
		After: []State{{T: 2004997, Base: 2006998, Rate: maxRho}}})
	// It shows 2000000 at 2002003, so the switches send at 2005003. At 2005103 it shows 2003097, and 1900 more at 2007005; so it is with 2005153 and 1850.
	slow := State{Rate: -maxRho}
	wants(t, c, 1, []State{slow}, Loss{}, Told{Sent: []int64{2002003}, Crews: [2]uint32{1, 1}, By: []int64{3}, Heard: []int{2},
		After: []State{{T: 2009011, Base: 2007004, Rate: -maxRho}}})
}

// A clock may begin at the cycle's beginning, and from there on back to the least base.
func TestBaseP201(t *testing.T) {
	c := conf.Family(2, 0)
	for _, cycle := range []int64{0, 1, 77, maxTime / 4000000} {
		begin := cycle * 2000000
		at := goes(t, c, cycle, []State{{T: 40, Base: begin}, {T: 90, Base: begin}}, Loss{})
		if !slices.Equal(at.Sent, []int64{40, 90}) || at.By[0] != -25 || at.By[1] != 25 {
			t.Error(cycle, at)
		}
		refuses(t, c, cycle, []State{{T: 40, Base: begin + 1}, {T: 90, Base: begin}})
		refuses(t, c, cycle, []State{{T: 40, Base: begin}, {T: 90, Base: begin + 1}})
		refuses(t, c, cycle, []State{{}, {Base: maxTime}})
		least := goes(t, c, cycle, []State{{Base: -maxTime}, {Base: -maxTime, Rate: maxRho}}, Loss{})
		if want := (begin != 0); (least.Sent[0] < 0) != want {
			t.Error(cycle, least)
		}
	}
}

// wrongStates are no clocks.
var wrongStates = []State{
	{T: -1}, {T: maxTime + 1, Base: 1}, {T: math.MinInt64}, {T: math.MaxInt64},
	{Base: -maxTime - 1}, {Base: maxTime + 1}, {Base: math.MinInt64}, {Base: math.MaxInt64},
	{Rate: -maxRho - 1}, {Rate: maxRho + 1}, {Rate: math.MinInt64}, {Rate: math.MaxInt64},
}

// wrongNets are networks that may not be, by each number of chapter 8.
func wrongNets() []api.Config {
	var l []api.Config
	for _, spoil := range []func(c *api.Config){
		func(c *api.Config) { c.Hosts = 0 },
		func(c *api.Config) { c.Hosts = 7 },
		func(c *api.Config) { c.Hosts = 3 },
		func(c *api.Config) { c.Cycle = 0 },
		func(c *api.Config) { c.Cycle = -1 },
		func(c *api.Config) { c.Cycle = api.MaxCycle + 1 },
		func(c *api.Config) { c.Cycle = math.MinInt64 },
		func(c *api.Config) { c.Delay = -1 },
		func(c *api.Config) { c.Delay = math.MaxInt64 },
		func(c *api.Config) { c.Window = api.MaxDelay + 1 },
		func(c *api.Config) { c.Precision = -1 },
		func(c *api.Config) { c.Delays = nil },
		func(c *api.Config) { c.Delays[1] = c.Delays[1][:1] },
		func(c *api.Config) { c.Delays[3][1] = c.Delay + 1 },
		func(c *api.Config) { c.Entries[0].Size = 63 },
		func(c *api.Config) { c.Entries[2].Phase = 0 },
		func(c *api.Config) { c.Entries[1] = api.Entry{From: 0, To: 2, Phase: 10100, Size: 64} },
		func(c *api.Config) { c.Entries[1].Phase = 10100 },
		func(c *api.Config) { c.Links = []api.Link{{From: 0, To: 2, Size: 64}} },
		func(c *api.Config) { c.Queue = 0 },
		func(c *api.Config) { c.Queue = 65 },
		func(c *api.Config) { *c = api.Config{} },
	} {
		c := conf.Family(4, 3)
		spoil(&c)
		l = append(l, c)
	}
	return l
}

func TestWrongP201(t *testing.T) {
	four := make([]State, 4)
	for _, c := range wrongNets() {
		refuses(t, c, 0, four)
		refuses(t, c, 1, make([]State, 3))
	}
	c := conf.Family(4, 3)
	for _, n := range []int{0, 1, 3, 5, 6, 7, 100} {
		refuses(t, c, 1, make([]State, n))
	}
	refuses(t, c, 1, nil)
	for _, s := range wrongStates {
		for h := range 4 {
			clocks := slices.Clone(four)
			clocks[h] = s
			refuses(t, c, 300000000, clocks)
		}
	}
}

// A cycle is one of the first half of all times.
func TestCycleP201(t *testing.T) {
	for _, cycle := range []int64{1, 2, 3, 1000, 2000000, api.MaxCycle - 1, api.MaxCycle} {
		c := netOf(2, cycle, 10, 10, 10)
		last := maxTime / (2 * cycle)
		for _, k := range []int64{0, 1, last - 1, last} {
			if told := goes(t, c, k, []State{{Base: -7}, {}}, Loss{}); told.Sent[0] != k*cycle+7 || told.Crews != [2]uint32{3, 3} || told.By[0]+told.By[1] != 1 {
				t.Error(cycle, k, told)
			}
		}
		for _, k := range []int64{-1, -2, math.MinInt64, math.MinInt64 + 1, -1 << 32, last + 1, maxTime/cycle + 1, 1 << 62, 1 << 61, math.MaxInt64 - 1, math.MaxInt64} {
			refuses(t, c, k, []State{{Base: -maxTime}, {Base: -maxTime}})
		}
	}
}

func TestRunP201(t *testing.T) {
	r := rand.New(rand.NewSource(2))
	longest, refused := 0, 0
	for range 2000 {
		c := anyNet(t, r)
		from := anyCycle(r, c)
		clocks := anyClocks(r, c, from, maxRho)
		lost := make([]Loss, r.Intn(9))
		for i := range lost {
			lost[i] = anyLoss(r)
		}
		told, e := Run(c, from, clocks, lost)
		wantError := api.OK
		var want []Told
		for i, l := range lost {
			one, e := Go(c, from+int64(i), clocks, l)
			if e != api.OK {
				wantError = e
				break
			}
			want = append(want, one)
			clocks = one.After
		}
		if e != wantError || len(told) != len(want) || len(want) > 0 && !reflect.DeepEqual(told, want) {
			t.Fatal(c, from, lost, "\ntold", told, e, "\nwant", want, wantError)
		}
		longest = max(longest, len(told))
		if e != api.OK && len(told) > 0 {
			refused++
		}
	}
	if longest < 8 || refused < 20 {
		t.Error("seldom", longest, refused)
	}
}

// No more than so many rounds; without any nothing is asked.
func TestRunRoundsP201(t *testing.T) {
	c := conf.Family(2, 0)
	clocks := []State{{Base: 300}, {}}
	for n := range 33 {
		told, e := Run(c, 5, clocks, make([]Loss, n))
		if len(told) != n || e != api.OK {
			t.Fatal(n, len(told), e)
		}
		for i, one := range told {
			by := int64(0)
			if i == 0 {
				by = 150
			}
			if want := 2000000 * int64(5+i); one.By[1] != by || one.Sent[1] != want && i == 0 || one.Sent[1] != want-150 && i > 0 {
				t.Error(n, i, one)
			}
		}
	}
	for _, n := range []int{33, 34, 64, 1000} {
		if told, e := Run(c, 5, clocks, make([]Loss, n)); len(told) != 0 || e != api.ErrArg {
			t.Error(n, len(told), e)
		}
	}
	for _, lost := range [][]Loss{nil, {}} {
		if told, e := Run(api.Config{}, -1, nil, lost); len(told) != 0 || e != api.OK {
			t.Error(told, e)
		}
	}
	if told, e := Run(api.Config{}, -1, nil, make([]Loss, 33)); len(told) != 0 || e != api.ErrArg {
		t.Error(told, e)
	}
}

// What was told ahead of an error stands beside it.
func TestRunErrorP201(t *testing.T) {
	c := netOf(2, 1, 10, 0, 0) // behind a round the clocks show more than the next cycle's beginning
	told, e := Run(c, 4, []State{{}, {}}, make([]Loss, 3))
	one := goes(t, c, 4, []State{{}, {}}, Loss{})
	if e != api.ErrArg || !reflect.DeepEqual(told, []Told{one}) || one.After[0].Base != 25 {
		t.Error(told, e)
	}
	// A round in which no clock is set goes on to the next one.
	none := Loss{Up: [2]uint32{3, 3}}
	if told, e := Run(c, 4, []State{{}, {}}, []Loss{none, none, {}, none}); e != api.ErrArg || len(told) != 3 || told[2].Sent[0] != 6 {
		t.Error(told, e)
	}
	last := int64(maxTime / 4000000)
	d := conf.Family(1, 0)
	if told, e := Run(d, last-2, []State{{}}, make([]Loss, 8)); e != api.ErrArg || len(told) != 3 {
		t.Error(told, e)
	}
}

func TestBoundP201(t *testing.T) {
	c := conf.Family(2, 0)
	for _, x := range []struct{ delay, rho, d, want int64 }{
		{2000, 0, 0, 10},
		{2000, 100000, 1000000, 210},
		{2000, 100000, 0, 10},
		{0, maxRho, 999, 10},
		{0, maxRho, 1000, 12},
		{499, maxRho, 0, 10},
		{500, maxRho, 0, 12},
		{499, maxRho, 999, 10}, // both quotients are nearly 1
		{500000, 999, 0, 10},
		{500000, 1000, 0, 12},
		{0, 1, 999999999, 10},
		{0, 1, 1000000000, 12},
		{0, 1, 1999999999, 12},
		{api.MaxDelay, 0, 2 * api.MaxCycle, 10},
		{api.MaxDelay, 1, 2 * api.MaxCycle, 14},
		{api.MaxDelay, maxRho, 0, 4204},
		{api.MaxDelay, maxRho, 2 * api.MaxCycle, 4299170},
	} {
		d := netOf(2, 2000000, x.delay, 1, 1)
		if n := Bound(d, x.rho, x.d); n != x.want {
			t.Error(x, n)
		}
	}
	far := []int64{-1, -1000, math.MinInt64, math.MinInt64 + 1, 1 << 62, math.MaxInt64}
	for _, n := range append(far, maxRho+1) {
		if b := Bound(c, n, 0); b != 0 {
			t.Error(n, b)
		}
	}
	for _, n := range append(far, 2*api.MaxCycle+1) {
		if b := Bound(c, 0, n); b != 0 {
			t.Error(n, b)
		}
	}
	for _, c := range wrongNets() {
		if b := Bound(c, 0, 0); b != 0 {
			t.Error(c, b)
		}
	}
}

func TestSpreadP201(t *testing.T) {
	for _, x := range []struct {
		clocks []State
		t      int64
		want   int64
		ok     bool
	}{
		{nil, 0, 0, false},
		{[]State{}, 5, 0, false},
		{[]State{{}}, 0, 0, true},
		{[]State{{}}, -1, 0, false},
		{[]State{{}}, math.MinInt64, 0, false},
		{[]State{{}}, maxTime, 0, true},
		{[]State{{}}, maxTime + 1, 0, false},
		{[]State{{}}, math.MaxInt64, 0, false},
		{[]State{{T: 5}, {T: 6}}, 6, 1, true},
		{[]State{{T: 5}, {T: 6}}, 5, 0, false},
		{[]State{{T: 6}, {T: 5}}, 5, 0, false},
		{[]State{{Base: 7}, {Base: -3}, {Base: 2}}, 9, 10, true},
		{[]State{{Base: 7}, {Base: -3}, {Base: 2, Rate: maxRho}}, 8000, 13, true},
		{[]State{{Rate: -1}, {}}, 0, 0, true},
		{[]State{{Rate: -1}, {}}, 1, 1, true},
		{[]State{{Rate: 1}, {}}, 999999999, 0, true},
		{[]State{{Rate: 1}, {}}, 1000000000, 1, true},
		{[]State{{Base: maxTime}, {Base: -maxTime}}, 3, 2 * maxTime, true},
		{[]State{{Base: maxTime, Rate: maxRho}, {Base: -maxTime, Rate: -maxRho}}, maxTime, 2*maxTime + 2251799813685, true},
		{make([]State, 1000), 3, 0, true},
	} {
		if n, ok := Spread(x.clocks, x.t); n != x.want || ok != x.ok {
			t.Error(x, n, ok)
		}
	}
	for _, s := range wrongStates {
		for _, clocks := range [][]State{{s}, {{}, s}, {s, {}}} {
			for _, at := range []int64{0, 3, maxTime, maxTime + 1, math.MaxInt64, -1} {
				if n, ok := Spread(clocks, at); n != 0 || ok {
					t.Error(clocks, at, n, ok)
				}
			}
		}
	}
}

// drifting is a round of a network, with clocks whose rates are from -rho to rho, in which nothing is lost.
func drifting(t *testing.T, r *rand.Rand, rho int64) (api.Config, []State, *model) {
	c := anyNet(t, r)
	cycle := anyCycle(r, c)
	clocks := anyClocks(r, c, cycle, rho)
	for h := range clocks {
		clocks[h].Rate = min(max(clocks[h].Rate, -rho), rho)
	}
	return c, clocks, modelOf(c, cycle, clocks, Loss{})
}

// set tells which clocks were set.
func (m *model) set(h int) bool { return m.told.Heard[h] > 0 && m.told.After[h].T != m.clocks[h].T }

func TestTogetherP202(t *testing.T) {
	r := rand.New(rand.NewSource(3))
	asked := 0
	for range 20000 {
		rho := pick(r, 0, 1, 100, 100000, maxRho, r.Int63n(maxRho+1))
		c, clocks, m := drifting(t, r, rho)
		told := goes(t, c, m.begin/c.Cycle, clocks, Loss{})
		last := int64(0)
		for h := range clocks {
			last = max(last, told.After[h].T)
			if told.Heard[h] < 2 || !m.set(h) {
				last = math.MaxInt64
			}
		}
		sending := max(m.points[0], m.points[1]) + c.Window
		for _, d := range []int64{last - sending, last - sending + r.Int63n(10000), c.Cycle, 2 * api.MaxCycle, r.Int63n(2*api.MaxCycle + 1)} {
			end := min(sending+d, maxTime)
			if last == math.MaxInt64 || end < last || d < 0 || d > 2*api.MaxCycle {
				continue
			}
			for _, at := range []int64{last, end, last + r.Int63n(end-last+1)} {
				asked++
				if apart, ok := Spread(told.After, at); !ok || apart > Bound(c, rho, d) {
					t.Fatal(c, clocks, told, "\nat", at, "apart by", apart, ok, "and not", Bound(c, rho, d))
				}
			}
		}
	}
	if asked < 20000 {
		t.Error("seldom", asked)
	}
}

func TestRightP203(t *testing.T) {
	r := rand.New(rand.NewSource(4))
	asked := 0
	for range 20000 {
		c, clocks, m := drifting(t, r, 0)
		var heard []State
		last := int64(0)
		for h, s := range goes(t, c, m.begin/c.Cycle, clocks, Loss{}).After {
			if m.set(h) {
				heard = append(heard, s)
				last = max(last, s.T)
			}
		}
		if len(heard) < 2 {
			continue
		}
		asked++
		for _, at := range []int64{last, maxTime} {
			if apart, ok := Spread(heard, at); apart != 0 || !ok {
				t.Fatal(c, clocks, heard, at, apart, ok)
			}
		}
	}
	if asked < 3000 {
		t.Error("seldom", asked)
	}
}

// Right clocks that are no further apart than the window all hear, and show the same behind one round.
func TestOneRoundP203(t *testing.T) {
	r := rand.New(rand.NewSource(5))
	for range 5000 {
		c := anyNet(t, r)
		clocks := make([]State, c.Hosts)
		for h := range clocks {
			clocks[h].Base = -r.Int63n(c.Window + 1)
		}
		told := goes(t, c, 5, clocks, Loss{})
		all := uint32(1)<<c.Hosts - 1
		if apart, ok := Spread(told.After, 1<<40); apart != 0 || !ok || told.Crews != [2]uint32{all, all} {
			t.Fatal(c, clocks, told)
		}
	}
}

func TestSetByAcceptP204(t *testing.T) {
	r := rand.New(rand.NewSource(6))
	farthest := 0
	for range 20000 {
		c := anyNet(t, r)
		cycle := anyCycle(r, c)
		clocks := anyClocks(r, c, cycle, maxRho)
		told := goes(t, c, cycle, clocks, anyLoss(r))
		accept := c.Window + 2*c.Precision
		for h, s := range told.After {
			by := s.Base - shows(clocks[h], s.T)
			if by < -accept || by > accept || s.Rate != clocks[h].Rate || s.T < clocks[h].T {
				t.Fatal(c, clocks, told, h, by)
			}
			if accept > 0 && (by == accept || by == -accept) {
				farthest++
			}
		}
	}
	if farthest < 20 {
		t.Error("seldom", farthest)
	}
}

// What is handed in stays as it is and isn't kept, and no list of an answer shares anything with another.
func TestMemoryP201(t *testing.T) {
	c := conf.Family(4, 3)
	before := conf.Copy(c)
	room := make([]State, 4, 16)
	for i := range room[:16] {
		room[:16][i] = State{T: int64(i), Base: int64(-i), Rate: int64(100 * i)}
	}
	clocks, kept := room[:4], slices.Clone(room[:16])
	lost := make([]Loss, 3, 8)
	lost[1].Up[0] = 5
	lostBefore := slices.Clone(lost[:8])
	told, e := Run(c, 2, clocks, lost)
	again, _ := Run(c, 2, clocks, lost)
	Bound(c, 5, 5)
	Spread(clocks, 5)
	if e != api.OK || !conf.Equal(c, before) || !slices.Equal(room[:16], kept) || !slices.Equal(lost[:8], lostBefore) {
		t.Error("changed", e, c, room[:16], lost[:8])
	}
	scribble(c, room[:16], lost[:8])
	if !reflect.DeepEqual(told, again) {
		t.Error("kept", told)
	}
	for i := range told {
		overwrite(told[i].Sent, -9)
		overwrite(told[i].By, -8)
		overwrite(told[i].Heard, -7)
		overwrite(told[i].After, State{T: -6})
		for j, one := range told {
			if j == i {
				one = Told{Sent: again[i].Sent, By: again[i].By, Heard: again[i].Heard, After: again[i].After, Crews: one.Crews}
			}
			if !reflect.DeepEqual(one, again[j]) {
				t.Error("shared", i, j, one, again[j])
			}
		}
		want := Told{Sent: slices.Repeat([]int64{-9}, 4), By: slices.Repeat([]int64{-8}, 4), Heard: slices.Repeat([]int{-7}, 4), After: slices.Repeat([]State{{T: -6}}, 4), Crews: again[i].Crews}
		if !reflect.DeepEqual(told[i], want) {
			t.Error("shared", told[i])
		}
		told[i] = again[i]
	}
}

func scribble(c api.Config, clocks []State, lost []Loss) {
	c.Delays[0][0], c.Entries[0] = -5, api.Entry{}
	overwrite(clocks, State{T: -5})
	overwrite(lost, Loss{Up: [2]uint32{63, 63}})
}

// overwrite writes all over a list, its spare room too.
func overwrite[T any](l []T, x T) {
	l = l[:cap(l)]
	for i := range l {
		l[i] = x
	}
}

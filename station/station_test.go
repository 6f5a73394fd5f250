package station

import (
	"bytes"
	"math"
	"math/rand"
	"slices"
	"strings"
	"testing"

	"tocsin/api"
	"tocsin/conf"
	"tocsin/frame"
)

const maxTime = 1 << 50

// far are numbers of no local time, whatever the configuration.
var far = []int64{math.MinInt64, math.MinInt64 + 1, -1 << 62, -maxTime - 1, -maxTime, -1, maxTime + 1, maxTime + 2000000, 1 << 62, math.MaxInt64}

// took is a frame that was taken: of an entry in a cycle, or of a link with a number.
type took struct {
	class, link int
	n           int64
}

// model is a station in the chapter's words, which goes through all that it took. (The frames that are handed to it can be read.)
type model struct {
	c            api.Config
	host         int
	taken        []took
	got, dropped int
}

func (m *model) judge(local int64, d api.Data) Got {
	g := Got{Data: d}
	switch d.Class {
	case 1:
		m.timed(&g, local)
	case 2:
		m.rated(&g)
	case 3:
		if d.Link != m.host {
			g.Why = 1
		}
	}
	if g.Why == 0 {
		m.got++
	} else {
		m.dropped++
	}
	return g
}

func (m *model) timed(g *Got, local int64) {
	g.Why = 1
	if g.Data.Link >= len(m.c.Entries) {
		return
	}
	e := m.c.Entries[g.Data.Link]
	if e.To>>m.host&1 == 0 || e.Size != g.Data.Size {
		return
	}
	g.Why = 2
	if local < 0 || local > maxTime {
		return
	}
	k := local / m.c.Cycle
	there := k*m.c.Cycle + e.Phase + 16*int64(e.Size) + m.c.Delay + 2*m.c.Precision
	if local >= there-m.c.Precision && local <= there+m.c.Delay+m.c.Precision {
		g.Cycle, g.Why = k, m.take(took{1, g.Data.Link, k})
	}
}

func (m *model) rated(g *Got) {
	g.Why = 1
	if g.Data.Link >= len(m.c.Links) {
		return
	}
	if l := m.c.Links[g.Data.Link]; l.To>>m.host&1 == 1 && g.Data.Size <= l.Size {
		g.Why = m.take(took{2, g.Data.Link, int64(g.Data.Number)})
	}
}

// take takes what none of its kind taken so far is level with or beyond.
func (m *model) take(k took) (why int) {
	for _, x := range m.taken {
		if x.class == k.class && x.link == k.link && x.n >= k.n {
			return 3
		}
	}
	m.taken = append(m.taken, k)
	return 0
}

// linked has three entries, as Family(4, 3), and links of which each host gets some.
func linked() api.Config {
	c := conf.Family(4, 3)
	c.Links = []api.Link{
		{From: 0, To: 0b0110, Gap: 1000, Size: 100},
		{From: 3, To: 0b0111, Gap: 7, Size: 64},
		{From: 1, To: 0b1101, Gap: api.MaxCycle, Size: 1518},
	}
	return c
}

func made(t *testing.T, c api.Config, host int) *Station {
	t.Helper()
	s, e := New(c, host)
	if s == nil || e != api.OK {
		t.Fatal(c, host, s, e)
	}
	return s
}

func coded(t *testing.T, d api.Data) []byte {
	t.Helper()
	b, e := frame.Data(d)
	if e != api.OK {
		t.Fatal(d, e)
	}
	return b
}

// counts holds what was counted against what should have been.
func counts(t *testing.T, s *Station, got, dropped int) {
	t.Helper()
	if n, m := s.Count(); n != got || m != dropped {
		t.Error("counted", n, m, "and not", got, dropped)
	}
}

// judged holds what becomes of a frame against what should.
func judged(t *testing.T, s *Station, local int64, d api.Data, why int, cycle int64) {
	t.Helper()
	if g := s.Judge(local, coded(t, d)); g != (Got{Why: why, Data: d, Cycle: cycle}) {
		t.Error(local, d, g, "and not", why, cycle)
	}
}

func TestExamplesP191(t *testing.T) {
	c := conf.Family(4, 3)
	s := made(t, c, 1)
	d := api.Data{Class: api.Timed, Link: 0, Number: 9, Payload: "tick", Size: 64}
	judged(t, s, 2014000, d, 0, 1)
	judged(t, s, 2014100, d, api.WhyTwice, 1)
	judged(t, s, 2017000, d, api.WhyWindow, 0)
	judged(t, s, 4014000, d, 0, 2)
	counts(t, s, 2, 2)
	s = made(t, c, 0)
	judged(t, s, 2014000, d, api.WhyForm, 0)
	counts(t, s, 0, 1)
}

func TestNewP191(t *testing.T) {
	for hosts := 1; hosts <= api.MaxHosts; hosts++ {
		c := conf.Family(hosts, 16)
		for host := range hosts {
			counts(t, made(t, c, host), 0, 0)
		}
		for _, host := range []int{math.MinInt, -1 << 32, -256, -1, hosts, hosts + 1, api.MaxHosts, api.MaxHosts + 1, 32, 256, 1 << 32, math.MaxInt} {
			if s, e := New(c, host); s != nil || e != api.ErrArg {
				t.Error(hosts, host, s, e)
			}
		}
	}
}

func TestNewWrongP191(t *testing.T) {
	for number, spoil := range []func(c *api.Config){
		func(c *api.Config) { c.Queue = 1 },
		func(c *api.Config) { c.Hosts = 7 },
		func(c *api.Config) { c.Cycle = 0 },
		func(c *api.Config) { c.Precision = -1 },
		func(c *api.Config) { c.Delays = c.Delays[:3] },
		func(c *api.Config) { c.Entries[1].To = 0 },
		func(c *api.Config) { c.Entries[1].Phase = 0 },
		func(c *api.Config) { c.Entries[1] = api.Entry{From: 0, To: 2, Phase: 10100, Size: 64} },
		func(c *api.Config) { c.Entries[1].Phase = 10100 },
		func(c *api.Config) { c.Links[2].Gap = api.MaxCycle + 1 },
		func(c *api.Config) { c.Queue = 0 },
	} {
		c := linked()
		spoil(&c)
		if conf.Check(c) != number {
			t.Fatal("another wrong", number, conf.Check(c))
		}
		for _, host := range []int{0, 3, -1, 9} {
			right := number == 0 && host >= 0 && host < 4
			if s, e := New(c, host); right != (s != nil) || right != (e == api.OK) || e != api.OK && e != api.ErrArg {
				t.Error(number, host, s, e)
			}
		}
	}
	if s, e := New(api.Config{}, 0); s != nil || e != api.ErrArg {
		t.Error(s, e)
	}
}

// unreadable are bytes that are no data frame.
func unreadable(t *testing.T) [][]byte {
	right := coded(t, api.Data{Class: api.Effort, Link: 1, Payload: "p", Size: 64})
	control, e := frame.Control(api.Control{Kind: api.Integrate, Crew: 1})
	if e != api.OK {
		t.Fatal(e)
	}
	wrongs := [][]byte{nil, {}, []byte("x"), {8, 0}, right[:63], right[1:], append(slices.Clone(right), 0), make([]byte, 64),
		make([]byte, 1518), make([]byte, 1519), make([]byte, 1<<16), control, bytes.Repeat([]byte{8, 0}, 32)}
	for bit := range 8 * len(right) {
		b := slices.Clone(right)
		b[bit/8] ^= 1 << (bit % 8)
		wrongs = append(wrongs, b)
	}
	for _, f := range []struct{ at, to byte }{{2, 0}, {2, 4}, {4, 128}, {8, 1}, {9, 51}, {40, 1}} { // a class, number, length or filling that none has
		b := slices.Clone(right[:60])
		b[f.at] = f.to
		n := frame.Sum(b)
		wrongs = append(wrongs, append(b, byte(n>>24), byte(n>>16), byte(n>>8), byte(n)))
	}
	return wrongs
}

// What can't be read is told without a frame, whenever it comes.
func TestUnreadableP191(t *testing.T) {
	s := made(t, linked(), 1)
	n := 0
	for _, b := range unreadable(t) {
		for _, local := range append(far, 0, 2014000, maxTime) {
			n++
			if g := s.Judge(local, b); g != (Got{Why: api.WhyForm}) {
				t.Error(local, b, g)
			}
		}
	}
	counts(t, s, 0, n)
	judged(t, s, 0, api.Data{Class: api.Effort, Link: 1, Payload: "p", Size: 64}, 0, 0)
	counts(t, s, 1, n)
}

func TestTimedFormP191(t *testing.T) {
	c := linked()
	for host := range c.Hosts {
		s, n, taken := made(t, c, host), 0, 0
		refused := func(local int64, d api.Data) {
			t.Helper()
			n++
			judged(t, s, local, d, api.WhyForm, 0)
		}
		for i, e := range c.Entries {
			early := conf.Early(c, e)
			for _, local := range []int64{early, early - 1, -1, maxTime + 1} { // in its window and beside it: the form is looked at first
				for _, link := range []int{3, 4, 15, 16, 254, 255} {
					refused(local, api.Data{Class: api.Timed, Link: link, Size: e.Size})
				}
				refused(local, api.Data{Class: api.Timed, Link: i, Size: e.Size + 1})
				refused(local, api.Data{Class: api.Timed, Link: i, Size: 1518})
				if e.Size > 64 {
					refused(local, api.Data{Class: api.Timed, Link: i, Size: e.Size - 1})
				}
				if e.From == host {
					refused(local, api.Data{Class: api.Timed, Link: i, Size: e.Size})
				}
			}
			if e.From != host { // none of those was taken for it
				taken++
				judged(t, s, early, api.Data{Class: api.Timed, Link: i, Size: e.Size}, 0, 0)
			}
		}
		counts(t, s, taken, n)
	}
}

// A host that an entry leaves out refuses it, be it the sender or not.
func TestTimedReceiversP191(t *testing.T) {
	for to := uint32(1); to < 1<<6; to++ {
		for from := range 6 {
			if to>>from&1 == 1 {
				continue
			}
			c := conf.Family(6, 1)
			c.Entries[0].From, c.Entries[0].To = from, to
			for host := range 6 {
				why := api.WhyForm
				if to>>host&1 == 1 {
					why = 0
				}
				judged(t, made(t, c, host), 14000, api.Data{Class: api.Timed, Size: 64}, why, 0)
			}
		}
	}
}

func TestTimedWindowP191(t *testing.T) {
	c := conf.Family(4, 3)
	s := made(t, c, 3)
	d := api.Data{Class: api.Timed, Link: 2, Number: 1<<31 - 1, Payload: strings.Repeat("x", 52), Size: 66}
	got, dropped := 0, 0
	// Entry 2 is forwarded at 113528, and is 528 nanoseconds on a wire.
	for _, cycle := range []int64{0, 1, 562949952} {
		for _, place := range []int64{113556, 113557, 115000, 116555, 116556} {
			s.Forget()
			got++
			judged(t, s, 2000000*cycle+place, d, 0, cycle)
		}
		for _, place := range []int64{0, 110000, 113028, 113528, 113555, 116557, 1999999} { // also where one was taken
			dropped++
			judged(t, s, 2000000*cycle+place, d, api.WhyWindow, 0)
		}
	}
	for _, local := range append(far, -1885000, 115000-2000000) {
		dropped++
		judged(t, s, local, d, api.WhyWindow, 0)
	}
	counts(t, s, got, dropped)
}

// Once a frame was taken none of its cycle or an earlier one is; what is refused takes nothing away.
func TestTimedTwiceP191(t *testing.T) {
	s := made(t, conf.Family(4, 3), 1)
	d := api.Data{Class: api.Timed, Link: 0, Size: 64}
	for _, x := range []struct {
		local int64
		why   int
		cycle int64
	}{
		{13523, api.WhyWindow, 0},
		{13524, 0, 0},
		{13524, api.WhyTwice, 0},
		{16524, api.WhyTwice, 0},
		{10013524, 0, 5},
		{10016524, api.WhyTwice, 5},
		{10013524, api.WhyTwice, 5},
		{8016524, api.WhyTwice, 4},
		{14000, api.WhyTwice, 0},
		{12013523, api.WhyWindow, 0},
		{12013524, 0, 6},
		{1125899904014000, 0, 562949952},
		{12014000, api.WhyTwice, 6},
	} {
		d.Number++ // it isn't looked at
		d.Payload += "."
		judged(t, s, x.local, d, x.why, x.cycle)
	}
	counts(t, s, 4, 9)
}

// Each entry has cycles of its own, in whatever order they come.
func TestTimedEntriesP191(t *testing.T) {
	c := conf.Family(6, 16)
	s := made(t, c, 5)
	got, dropped := 0, 0
	for _, cycle := range []int64{3, 1, 4} {
		for i, e := range slices.Backward(c.Entries) {
			if e.From == 5 {
				continue
			}
			d, local := api.Data{Class: api.Timed, Link: i, Size: e.Size}, cycle*c.Cycle+conf.Late(c, e)
			if cycle == 1 {
				dropped += 2
				judged(t, s, local, d, api.WhyTwice, 1)
				judged(t, s, local, d, api.WhyTwice, 1)
				continue
			}
			got++
			dropped++
			judged(t, s, local, d, 0, cycle)
			judged(t, s, local, d, api.WhyTwice, cycle)
		}
	}
	counts(t, s, got, dropped)
}

// The last local times of all may lie in a cycle that isn't through.
func TestTimedAtMaxTimeP191(t *testing.T) {
	c := api.Config{Hosts: 2, Cycle: 1<<20 + 3<<10, Delay: 1024, Delays: [][]int64{{0, 0}, {0, 0}}, Queue: 1,
		Entries: []api.Entry{{From: 0, To: 2, Size: 64}}}
	c.Entries[0].Phase = maxTime%c.Cycle - 2048 // so that Early is at the end of time
	s := made(t, c, 1)
	d := api.Data{Class: api.Timed, Size: 64}
	judged(t, s, maxTime-1, d, api.WhyWindow, 0)
	judged(t, s, maxTime, d, 0, maxTime/c.Cycle)
	judged(t, s, maxTime+1, d, api.WhyWindow, 0)
	judged(t, s, maxTime, d, api.WhyTwice, maxTime/c.Cycle)
	counts(t, s, 1, 3)
}

func TestRatedFormP191(t *testing.T) {
	c := linked()
	for host := range c.Hosts {
		s, n, taken := made(t, c, host), 0, 0
		refused := func(d api.Data) {
			t.Helper()
			n++
			d.Class, d.Number = api.Rated, 1<<31-1
			judged(t, s, far[n%len(far)], d, api.WhyForm, 0)
		}
		for _, link := range []int{3, 4, 15, 16, 254, 255} {
			refused(api.Data{Link: link, Size: 64})
		}
		refused(api.Data{Link: 0, Size: 101})
		refused(api.Data{Link: 0, Size: 1518})
		refused(api.Data{Link: 1, Size: 65})
		for link, l := range c.Links {
			if l.To>>host&1 == 0 {
				refused(api.Data{Link: link, Size: 64})
				refused(api.Data{Link: link, Size: l.Size})
				continue
			}
			taken++ // none of those was taken for it
			judged(t, s, 0, api.Data{Class: api.Rated, Link: link, Size: 64}, 0, 0)
		}
		counts(t, s, taken, n)
	}
}

// A frame may be less than its link's size, down to the least that any has.
func TestRatedSizeP191(t *testing.T) {
	c := linked()
	s := made(t, c, 2)
	got, dropped := 0, 0
	for size := api.MinSize; size <= api.MaxSize; size++ {
		for link, l := range c.Links {
			why := 0
			if size > l.Size {
				why = api.WhyForm
				dropped++
			} else {
				got++
			}
			judged(t, s, 0, api.Data{Class: api.Rated, Link: link, Number: size, Payload: "y", Size: size}, why, 0)
		}
	}
	counts(t, s, got, dropped)
}

// The time isn't looked at, and no cycle is told.
func TestRatedTwiceP191(t *testing.T) {
	s := made(t, linked(), 1)
	for i, x := range []struct {
		link, number, why int
	}{
		{0, 0, 0},
		{0, 0, api.WhyTwice},
		{0, 1, 0},
		{0, 0, api.WhyTwice},
		{0, 7, 0},
		{0, 6, api.WhyTwice},
		{0, 7, api.WhyTwice},
		{1, 5, 0},
		{1, 4, api.WhyTwice},
		{1, 6, 0},
		{0, 8, 0},
		{0, 256, 0},
		{0, 255, api.WhyTwice},
		{0, 1 << 16, 0},
		{0, 1<<31 - 1, 0},
		{0, 1<<31 - 1, api.WhyTwice},
		{0, 1<<31 - 2, api.WhyTwice},
		{0, 0, api.WhyTwice},
		{1, 7, 0},
	} {
		judged(t, s, far[i%len(far)]+int64(i), api.Data{Class: api.Rated, Link: x.link, Number: x.number, Payload: "z"[:i%2], Size: 64}, x.why, 0)
	}
	counts(t, s, 10, 9)
}

// An entry and a link of one number have nothing to do with each other.
func TestTimedAndRatedApartP191(t *testing.T) {
	s := made(t, linked(), 1)
	timed, rated := api.Data{Class: api.Timed, Size: 64}, api.Data{Class: api.Rated, Size: 64}
	judged(t, s, 2014000, timed, 0, 1)
	judged(t, s, 2014000, rated, 0, 0)
	rated.Number = 1
	judged(t, s, 2014000, rated, 0, 0)
	rated.Number = 100
	judged(t, s, 2014000, rated, 0, 0)
	judged(t, s, 4014000, timed, 0, 2)
	judged(t, s, 4014000, timed, api.WhyTwice, 2)
	rated.Number = 50
	judged(t, s, 4014000, rated, api.WhyTwice, 0)
	counts(t, s, 5, 2)
}

// Of effort nothing is asked but that it is for this host: neither when, nor how often.
func TestEffortP191(t *testing.T) {
	for hosts := 1; hosts <= api.MaxHosts; hosts++ {
		for host := range hosts {
			s, got, dropped := made(t, conf.Family(hosts, 2), host), 0, 0
			for link := range 256 {
				d := api.Data{Class: api.Effort, Link: link, Number: 1<<31 - 1 - link, Payload: "any", Size: 64 + link}
				for _, local := range append(far, 0, 2014000, maxTime) {
					if link == host {
						got++
						judged(t, s, local, d, 0, 0)
					} else {
						dropped++
						judged(t, s, local, d, api.WhyForm, 0)
					}
				}
			}
			counts(t, s, got, dropped)
		}
	}
}

// All that was taken is forgotten, and nothing else.
func TestForgetP191(t *testing.T) {
	c := linked()
	s := made(t, c, 2)
	s.Forget()
	counts(t, s, 0, 0)
	for n := 1; n <= 3; n++ {
		for i, e := range c.Entries {
			if e.From == 2 {
				continue
			}
			judged(t, s, 2000000*int64(9-n)+conf.Early(c, e), api.Data{Class: api.Timed, Link: i, Size: e.Size}, 0, int64(9-n))
			judged(t, s, 2000000*int64(9-n)+conf.Early(c, e), api.Data{Class: api.Timed, Link: i, Size: e.Size}, api.WhyTwice, int64(9-n))
		}
		for i := range c.Links {
			judged(t, s, 0, api.Data{Class: api.Rated, Link: i, Number: 9 - n, Size: 64}, 0, 0)
			judged(t, s, 0, api.Data{Class: api.Rated, Link: i, Number: 9 - n, Size: 64}, api.WhyTwice, 0)
		}
		counts(t, s, 5*n, 5*n)
		s.Forget()
		s.Forget()
		counts(t, s, 5*n, 5*n)
	}
}

// random is a random configuration with a short cycle.
func random(r *rand.Rand) api.Config {
	c := api.Config{Hosts: 2 + r.Intn(5), Cycle: 1400 + r.Int63n(5000), Queue: 1}
	c.Delay, c.Window, c.Precision = r.Int63n(100), r.Int63n(20), r.Int63n(10)
	for range c.Hosts {
		c.Delays = append(c.Delays, []int64{r.Int63n(c.Delay + 1), r.Int63n(c.Delay + 1)})
	}
	way := func() (int, uint32) {
		from := r.Intn(c.Hosts)
		return from, r.Uint32() & (1<<c.Hosts - 1) &^ (1 << from)
	}
	for range 2 + r.Intn(30) {
		from, to := way()
		with := conf.Copy(c)
		with.Entries = append(with.Entries, api.Entry{From: from, To: to, Phase: r.Int63n(c.Cycle), Size: 64 + r.Intn(3)})
		if conf.Check(with) == 0 {
			c = with
		}
		from, to = way()
		with = conf.Copy(c)
		with.Links = append(with.Links, api.Link{From: from, To: to, Gap: 1, Size: 64 + r.Intn(3)})
		if conf.Check(with) == 0 {
			c = with
		}
	}
	return c
}

// aim is a frame of which a host is told, often one that it should get.
func aim(r *rand.Rand, c api.Config, host int) api.Data {
	d := api.Data{Class: 1 + r.Intn(3), Link: r.Intn(6), Number: r.Intn(40), Payload: "abc"[:r.Intn(4)], Size: 64 + r.Intn(4)}
	switch {
	case r.Intn(10) == 0:
		d.Link = r.Intn(256)
	case r.Intn(10) == 0:
	case d.Class == api.Timed && len(c.Entries) > 0:
		d.Link = r.Intn(len(c.Entries))
		d.Size = c.Entries[d.Link].Size
	case d.Class == api.Rated && len(c.Links) > 0:
		d.Link = r.Intn(len(c.Links))
		d.Size = max(c.Links[d.Link].Size-r.Intn(2), 64)
	case d.Class == api.Effort:
		d.Link = host
	}
	return d
}

// window is a local time near the ends of a frame's window in a cycle, if it has one.
func window(r *rand.Rand, c api.Config, d api.Data, cycle int64) int64 {
	place := r.Int63n(c.Cycle)
	if d.Class == api.Timed && d.Link < len(c.Entries) && r.Intn(4) > 0 {
		early, late := conf.Early(c, c.Entries[d.Link]), conf.Late(c, c.Entries[d.Link])
		place = []int64{early - 1, early, early + r.Int63n(late-early+1), late, late + 1}[r.Intn(5)]
	}
	return place + cycle*c.Cycle
}

func TestRandomScriptsP191(t *testing.T) {
	r := rand.New(rand.NewSource(19))
	seen := map[[2]int]int{} // by class and why
	for range 400 {
		c := random(r)
		host := r.Intn(c.Hosts)
		got, want := made(t, c, host), &model{c: c, host: host}
		cycle := []int64{0, 1, 5, maxTime/c.Cycle - 3}[r.Intn(4)]
		for range 120 {
			d := aim(r, c, host)
			local := window(r, c, d, max(0, cycle-r.Int63n(2)))
			switch r.Intn(20) {
			case 0:
				local = far[r.Intn(len(far))]
			case 1, 2, 3:
				cycle++
			case 4:
				got.Forget()
				want.taken = nil
			}
			g, w := got.Judge(local, coded(t, d)), want.judge(local, d)
			if g != w {
				t.Fatal(c, host, local, g, w)
			}
			counts(t, got, want.got, want.dropped)
			seen[[2]int{d.Class, g.Why}]++
		}
	}
	for _, k := range [][2]int{{1, 0}, {1, 1}, {1, 2}, {1, 3}, {2, 0}, {2, 1}, {2, 3}, {3, 0}, {3, 1}} {
		if seen[k] < 100 {
			t.Error("hardly seen", k, seen[k])
		}
	}
	if len(seen) != 9 {
		t.Error(seen)
	}
}

// However often frames come, and in whatever order: till the next Forget each is taken once, and later ones behind earlier ones.
func TestOnceP192(t *testing.T) {
	r := rand.New(rand.NewSource(192))
	for range 100 {
		c := random(r)
		host := r.Intn(c.Hosts)
		s := made(t, c, host)
		for range 3 {
			last, n := map[[2]int]int64{}, 0
			for range 300 {
				d := aim(r, c, host)
				g := s.Judge(window(r, c, d, r.Int63n(5)), coded(t, d))
				if g.Why != 0 || d.Class == api.Effort {
					continue
				}
				key, now := [2]int{d.Class, d.Link}, g.Cycle
				if d.Class == api.Rated {
					now = int64(d.Number)
				}
				if was, ok := last[key]; ok && now <= was {
					t.Fatal(c, host, d, was, now)
				}
				last[key] = now
				n++
			}
			if n == 0 && len(c.Entries)+len(c.Links) > 8 {
				t.Error("nothing taken", c, host)
			}
			s.Forget()
		}
	}
}

// What becomes of timed frames is the same with all others left out: those of other classes, those of no form, and, entry by entry, those of other entries.
func TestTimedAloneP193(t *testing.T) {
	r := rand.New(rand.NewSource(193))
	for range 100 {
		c := random(r)
		host := r.Intn(c.Hosts)
		busy, alone := made(t, c, host), made(t, c, host)
		apart := make([]*Station, 256)
		for i := range apart {
			apart[i] = made(t, c, host)
		}
		for i := range 200 {
			d := aim(r, c, host)
			local, b := window(r, c, d, int64(i/40)), coded(t, d)
			if r.Intn(5) == 0 {
				b[r.Intn(len(b))]++
				busy.Judge(local, b)
				continue
			}
			g := busy.Judge(local, b)
			if d.Class != api.Timed {
				continue
			}
			if w := alone.Judge(local, b); g != w {
				t.Fatal(c, host, local, g, w)
			}
			if w := apart[d.Link].Judge(local, b); g != w {
				t.Fatal(c, host, local, g, w)
			}
		}
	}
}

func TestNilP194(t *testing.T) {
	var s *Station
	for _, b := range [][]byte{nil, []byte("x"), coded(t, api.Data{Class: 1, Size: 64}), coded(t, api.Data{Class: 2, Size: 64}),
		coded(t, api.Data{Class: 3, Link: 0, Payload: "p", Size: 64})} {
		for _, local := range append(far, 0, 14000, maxTime) {
			if g := s.Judge(local, b); g != (Got{Why: api.WhyForm}) {
				t.Error(local, g)
			}
		}
	}
	counts(t, s, 0, 0)
	s.Forget()
	counts(t, s, 0, 0)
}

// Two stations have nothing of one another.
func TestApartR2(t *testing.T) {
	c := linked()
	one, two, other := made(t, c, 1), made(t, c, 1), made(t, c, 2)
	timed, rated := api.Data{Class: api.Timed, Size: 64}, api.Data{Class: api.Rated, Size: 64}
	for _, s := range []*Station{one, two, other} {
		judged(t, s, 14000, timed, 0, 0)
		judged(t, s, 14000, timed, api.WhyTwice, 0)
		judged(t, s, 14000, rated, 0, 0)
	}
	one.Forget()
	judged(t, two, 14000, timed, api.WhyTwice, 0)
	judged(t, other, 14000, rated, api.WhyTwice, 0)
	judged(t, one, 14000, timed, 0, 0)
	judged(t, one, 14000, rated, 0, 0)
	counts(t, one, 4, 1)
	counts(t, two, 2, 2)
	counts(t, other, 2, 2)
}

// What is done to a configuration that was handed in, or to bytes that were judged, comes to nothing.
func TestKeepsCopiesR3(t *testing.T) {
	c := linked()
	was := conf.Copy(c)
	s, want := made(t, c, 1), made(t, was, 1)
	if !conf.Equal(c, was) {
		t.Error("changed", c)
	}
	c.Hosts, c.Cycle, c.Delay, c.Precision, c.Queue = 1, 1, 0, 0, 0
	for i := range c.Delays {
		c.Delays[i][0], c.Delays[i] = -1, nil
	}
	for i := range c.Entries {
		c.Entries[i] = api.Entry{From: 1, To: 1, Phase: 500000, Size: 99}
	}
	for i := range c.Links {
		c.Links[i] = api.Link{From: 1, To: 1, Gap: 1, Size: 1518}
	}
	random := rand.New(rand.NewSource(3))
	for i := range 2000 {
		d := aim(random, was, 1)
		d.Number += i / 100
		local := window(random, was, d, int64(i/40))
		b := coded(t, d)
		kept := append(slices.Clone(b), 77, 78)
		b = append(b, 77, 78)[:len(b)]
		g := s.Judge(local, b)
		if !bytes.Equal(b[:len(kept)], kept) {
			t.Fatal("bytes changed", d)
		}
		if w := want.Judge(local, slices.Clone(b)); g != w {
			t.Fatal(local, g, w)
		}
		clear(b)
		if g.Data != d {
			t.Fatal("shared", g.Data, d)
		}
	}
}

package relay

import (
	"bytes"
	"math"
	"math/rand"
	"slices"
	"strings"
	"testing"

	"tocsin/api"
	"tocsin/bucket"
	"tocsin/conf"
	"tocsin/frame"
)

const maxTime = 1 << 50

// far are numbers of no host, no time and no local time, whatever the configuration.
var far = []int64{math.MinInt64, math.MinInt64 + 1, -1 << 62, -maxTime - 1, maxTime + 1, maxTime + 2000000, 1 << 62, math.MaxInt64}

// times are some that a frame can come at.
var times = []int64{-maxTime, -1, 0, 1, 2011000, maxTime}

// noWhys are numbers for which nothing is dropped.
var noWhys = []int{math.MinInt, -1 << 32, -256, -7, -1, 0, 8, 9, 16, 255, 256, 257, 1 << 32, 1<<32 + 1, math.MaxInt}

// mark is where a bucket's mark is, if there is one.
type mark struct {
	at, last int64
	set      bool
}

// model is a relay in the chapter's words. (The frames that are handed to it can be read.)
type model struct {
	c     api.Config
	marks [16]mark
	whys  []int
}

func (m *model) judge(t, local int64, from int, d api.Data) Verdict {
	v := Verdict{Data: d}
	switch d.Class {
	case 1:
		m.timed(&v, local, from)
	case 2:
		m.rated(&v, t, from)
	case 3:
		if d.Link >= m.c.Hosts || d.Link == from {
			v.Why = 1
		} else {
			v.To = 1 << d.Link
		}
	}
	if v.Why != 0 {
		m.whys = append(m.whys, v.Why)
	}
	return v
}

func (m *model) timed(v *Verdict, local int64, from int) {
	if v.Data.Link >= len(m.c.Entries) || m.c.Entries[v.Data.Link].From != from || m.c.Entries[v.Data.Link].Size != v.Data.Size {
		v.Why = 1
		return
	}
	e := m.c.Entries[v.Data.Link]
	v.Why = 2
	if local < 0 || local > maxTime {
		return
	}
	there := local/m.c.Cycle*m.c.Cycle + e.Phase + 8*int64(e.Size)
	if local >= there-m.c.Precision && local <= there+m.c.Delay+m.c.Precision {
		v.Why, v.To, v.At = 0, e.To, there+m.c.Delay+2*m.c.Precision
	}
}

func (m *model) rated(v *Verdict, t int64, from int) {
	if v.Data.Link >= len(m.c.Links) || m.c.Links[v.Data.Link].From != from || v.Data.Size > m.c.Links[v.Data.Link].Size {
		v.Why = 1
		return
	}
	l, k := m.c.Links[v.Data.Link], &m.marks[v.Data.Link]
	if t < -maxTime || t > maxTime || k.set && (t < k.at-m.c.Delay || t < k.last) {
		v.Why = 4
		return
	}
	if !k.set || t > k.at {
		k.at = t
	}
	k.at, k.last, k.set = k.at+l.Gap, t, true
	v.To = l.To
}

func (m *model) dropped(why int) int {
	n := 0
	for _, w := range m.whys {
		if w == why {
			n++
		}
	}
	return n
}

// linked has three entries, as Family(4, 3), and links that differ in all they have.
func linked() api.Config {
	c := conf.Family(4, 3)
	c.Delay = 10
	c.Delays = [][]int64{{0, 10}, {1, 2}, {3, 4}, {5, 6}}
	c.Links = []api.Link{
		{From: 1, To: 5, Gap: 100, Size: 100},
		{From: 0, To: 14, Gap: 7, Size: 64},
		{From: 1, To: 8, Gap: api.MaxCycle, Size: 1518},
	}
	return c
}

func made(t *testing.T, c api.Config) *Relay {
	t.Helper()
	r, e := New(c)
	if r == nil || e != api.OK {
		t.Fatal(c, r, e)
	}
	return r
}

func coded(t *testing.T, d api.Data) []byte {
	t.Helper()
	b, e := frame.Data(d)
	if e != api.OK {
		t.Fatal(d, e)
	}
	return b
}

// drops holds what was dropped against what should have been: of form, window and budget.
func drops(t *testing.T, r *Relay, form, window, budget int) {
	t.Helper()
	want := [8]int{1: form, 2: window, 4: budget}
	for why, n := range want {
		if got := r.Dropped(why); got != n {
			t.Error("dropped", why, got, n)
		}
	}
	for _, why := range noWhys {
		if got := r.Dropped(why); got != 0 {
			t.Error("dropped", why, got)
		}
	}
}

func TestExamplesP181(t *testing.T) {
	r := made(t, conf.Family(4, 3))
	d := api.Data{Class: api.Timed, Link: 0, Number: 9, Payload: "tick", Size: 64}
	if v := r.Judge(0, 2011000, 0, coded(t, d)); v != (Verdict{Data: d, To: 14, At: 2013512}) {
		t.Error(v)
	}
	if v := r.Judge(0, 2011000, 1, coded(t, d)); v != (Verdict{Why: api.WhyForm, Data: d}) {
		t.Error(v)
	}
	if v := r.Judge(0, 2014000, 0, coded(t, d)); v != (Verdict{Why: api.WhyWindow, Data: d}) {
		t.Error(v)
	}
	d = api.Data{Class: api.Effort, Link: 2, Size: 64}
	if v := r.Judge(0, 0, 0, coded(t, d)); v != (Verdict{Data: d, To: 4}) {
		t.Error(v)
	}
	drops(t, r, 1, 1, 0)
}

func TestNewP181(t *testing.T) {
	wide := linked()
	wide.Cycle, wide.Delay, wide.Window, wide.Precision = api.MaxCycle, api.MaxDelay, api.MaxDelay, api.MaxDelay
	wide.Entries = nil
	for range api.MaxLinks - 3 {
		wide.Links = append(wide.Links, api.Link{From: 3, To: 7, Gap: 1, Size: 1518})
	}
	for _, c := range []api.Config{conf.Family(1, 0), conf.Family(6, 16), linked(), wide} {
		drops(t, made(t, c), 0, 0, 0)
	}
}

func TestNewWrongP181(t *testing.T) {
	for number, spoil := range []func(c *api.Config){
		func(c *api.Config) { c.Queue = 1 },
		func(c *api.Config) { c.Hosts = 7 },
		func(c *api.Config) { c.Cycle = 0 },
		func(c *api.Config) { c.Precision = -1 },
		func(c *api.Config) { c.Delays = c.Delays[:3] },
		func(c *api.Config) { c.Entries[1].To = 0 },
		func(c *api.Config) { c.Entries[1].Phase = 0 },
		func(c *api.Config) { c.Entries[1] = api.Entry{From: 0, To: 2, Phase: 10100, Size: 64} },
		func(c *api.Config) { c.Entries[1].Phase = 10100 },
		func(c *api.Config) { c.Links[2].Gap = api.MaxCycle + 1 },
		func(c *api.Config) { c.Queue = 0 },
	} {
		c := linked()
		spoil(&c)
		if conf.Check(c) != number {
			t.Fatal("another wrong", number, conf.Check(c))
		}
		if r, e := New(c); (number == 0) != (r != nil) || (number == 0) != (e == api.OK) || e != api.OK && e != api.ErrArg {
			t.Error(number, r, e)
		}
	}
	if r, e := New(api.Config{}); r != nil || e != api.ErrArg {
		t.Error(r, e)
	}
}

// What can't be read is told without a frame, whoever it came from and whenever.
func TestUnreadableP181(t *testing.T) {
	right := coded(t, api.Data{Class: api.Effort, Link: 2, Payload: "p", Size: 64})
	control, e := frame.Control(api.Control{Kind: api.Integrate, Crew: 1})
	if e != api.OK {
		t.Fatal(e)
	}
	wrongs := [][]byte{nil, {}, []byte("x"), {8, 0}, right[:63], right[1:], append(slices.Clone(right), 0), make([]byte, 64),
		make([]byte, 1518), make([]byte, 1519), make([]byte, 1<<16), control, bytes.Repeat([]byte{8, 0}, 32)}
	for bit := range 8 * len(right) {
		b := slices.Clone(right)
		b[bit/8] ^= 1 << (bit % 8)
		wrongs = append(wrongs, b)
	}
	for _, f := range []struct{ at, to byte }{{2, 0}, {2, 4}, {4, 128}, {8, 1}, {9, 51}, {40, 1}} { // a class, number, length or filling that none has
		b := slices.Clone(right[:60])
		b[f.at] = f.to
		n := frame.Sum(b)
		wrongs = append(wrongs, append(b, byte(n>>24), byte(n>>16), byte(n>>8), byte(n)))
	}
	r := made(t, linked())
	for i, b := range wrongs {
		for _, from := range []int{0, 1, -1, 99} {
			if v := r.Judge(int64(i), int64(i), from, b); v != (Verdict{Why: api.WhyForm}) {
				t.Error(i, b, v)
			}
		}
	}
	drops(t, r, 4*len(wrongs), 0, 0)
	if v := r.Judge(0, 0, 0, right); v.Why != 0 || v.To != 4 {
		t.Error(v)
	}
}

func TestTimedFormP181(t *testing.T) {
	c := linked()
	r := made(t, c)
	forms := 0
	refused := func(local int64, from int, d api.Data) {
		t.Helper()
		forms++
		if v := r.Judge(5, local, from, coded(t, d)); v != (Verdict{Why: api.WhyForm, Data: d}) {
			t.Error(local, from, d, v)
		}
	}
	for i, e := range c.Entries {
		at, _ := conf.At(c, e)
		for _, local := range []int64{at, at - 1, -1, maxTime + 1} { // in its window and beside it: the form is looked at first
			for _, link := range []int{3, 4, 15, 16, 254, 255} {
				refused(local, e.From, api.Data{Class: api.Timed, Link: link, Size: e.Size})
			}
			for _, from := range []int{math.MinInt, -1, 3, 4, 5, 256 + e.From, 1<<32 + e.From, math.MaxInt} {
				refused(local, from, api.Data{Class: api.Timed, Link: i, Size: e.Size})
			}
			refused(local, (e.From+1)%3, api.Data{Class: api.Timed, Link: i, Size: e.Size})
			refused(local, e.From, api.Data{Class: api.Timed, Link: i, Size: e.Size + 1})
			refused(local, e.From, api.Data{Class: api.Timed, Link: i, Size: 1518})
			if e.Size > 64 {
				refused(local, e.From, api.Data{Class: api.Timed, Link: i, Size: e.Size - 1})
			}
		}
	}
	drops(t, r, forms, 0, 0)
}

func TestTimedWindowP181(t *testing.T) {
	c := conf.Family(4, 3)
	r := made(t, c)
	d := api.Data{Class: api.Timed, Link: 2, Number: 1<<31 - 1, Payload: strings.Repeat("x", 52), Size: 66}
	late := 0
	// Entry 2 is sent at 110000, and is 528 nanoseconds on a wire.
	for _, begin := range []int64{0, 2000000, 562949952 * 2000000} {
		for place, want := range map[int64]bool{0: false, 110000: false, 110027: false, 110028: true, 111000: true, 113028: true,
			113029: false, 113528: false, 1999999: false} {
			v := r.Judge(place, begin+place, 2, coded(t, d))
			if want && v != (Verdict{Data: d, To: 11, At: begin + 113528}) {
				t.Error(begin, place, v)
			}
			if !want {
				late++
				if v != (Verdict{Why: api.WhyWindow, Data: d}) {
					t.Error(begin, place, v)
				}
			}
		}
	}
	for _, local := range append([]int64{-1, -1889000, -maxTime}, far...) {
		late++
		if v := r.Judge(0, local, 2, coded(t, d)); v != (Verdict{Why: api.WhyWindow, Data: d}) {
			t.Error(local, v)
		}
	}
	drops(t, r, 0, late, 0)
}

// A frame goes by the entry that it names, and as often as it comes.
func TestTimedEntriesP181(t *testing.T) {
	c := conf.Family(6, 16)
	r := made(t, c)
	for i, e := range c.Entries {
		from, to := conf.At(c, e)
		d := api.Data{Class: api.Timed, Link: i, Size: e.Size}
		for _, local := range []int64{from, from, to, to, from} {
			if v := r.Judge(0, local, e.From, coded(t, d)); v != (Verdict{Data: d, To: e.To, At: conf.Forward(c, e)}) {
				t.Error(i, local, v)
			}
		}
		if i > 0 { // in another's window
			if v := r.Judge(0, from, c.Entries[i-1].From, coded(t, api.Data{Class: api.Timed, Link: i - 1, Size: 63 + i})); v.Why != api.WhyWindow {
				t.Error(i, v)
			}
		}
	}
	drops(t, r, 0, 15, 0)
}

// What is told when a frame is forwarded may be above MaxTime.
func TestTimedAboveMaxTimeP181(t *testing.T) {
	c := api.Config{Hosts: 2, Cycle: 1 << 20, Delay: 1024, Precision: 0, Delays: [][]int64{{0, 0}, {0, 0}}, Queue: 1,
		Entries: []api.Entry{{From: 0, To: 2, Phase: 2048, Size: 64}}}
	r := made(t, c)
	d := api.Data{Class: api.Timed, Size: 64}
	if v := r.Judge(maxTime, maxTime-1<<20+2560, 0, coded(t, d)); v != (Verdict{Data: d, To: 2, At: maxTime - 1<<20 + 3584}) {
		t.Error(v)
	}
	if v := r.Judge(maxTime, maxTime, 0, coded(t, d)); v.Why != api.WhyWindow {
		t.Error(v)
	}
	// A cycle that isn't through when time ends: its entry may be at the switch at the last local time of all.
	c.Cycle = 1<<20 + 3<<10
	c.Entries[0].Phase = maxTime%c.Cycle - 512
	r = made(t, c)
	if v := r.Judge(maxTime, maxTime, 0, coded(t, d)); v != (Verdict{Data: d, To: 2, At: maxTime + 1024}) {
		t.Error(v)
	}
}

func TestRatedFormP181(t *testing.T) {
	c := linked()
	r := made(t, c)
	forms := 0
	refused := func(at int64, from int, d api.Data) {
		t.Helper()
		forms++
		if v := r.Judge(at, 0, from, coded(t, d)); v != (Verdict{Why: api.WhyForm, Data: d}) {
			t.Error(at, from, d, v)
		}
	}
	for _, at := range append([]int64{0, 50}, far...) { // where its budget is not asked, and where it would let none pass
		for _, link := range []int{3, 4, 15, 16, 254, 255} {
			refused(at, 1, api.Data{Class: api.Rated, Link: link, Size: 64})
		}
		for _, from := range []int{math.MinInt, -1, 0, 2, 3, 4, 257, 1<<32 + 1, math.MaxInt} {
			refused(at, from, api.Data{Class: api.Rated, Link: 0, Size: 64})
		}
		refused(at, 1, api.Data{Class: api.Rated, Link: 0, Size: 101})
		refused(at, 1, api.Data{Class: api.Rated, Link: 0, Size: 1518})
		refused(at, 0, api.Data{Class: api.Rated, Link: 1, Size: 65})
	}
	drops(t, r, forms, 0, 0)
	// None of them was taken from a budget.
	for link, from := range []int{1, 0, 1} {
		if v := r.Judge(-maxTime, 0, from, coded(t, api.Data{Class: api.Rated, Link: link, Size: 64})); v.Why != 0 || v.To != c.Links[link].To {
			t.Error(link, v)
		}
	}
}

// A frame may be less than its link's size, down to the least that any has.
func TestRatedSizeP181(t *testing.T) {
	c := linked()
	r := made(t, c)
	at := int64(0)
	for size := api.MinSize; size <= api.MaxSize; size += 2 {
		for link, l := range c.Links[:2] {
			at += 1000
			d := api.Data{Class: api.Rated, Link: link, Number: size, Payload: "y", Size: size}
			want := Verdict{Data: d, To: l.To}
			if size > l.Size {
				want = Verdict{Why: api.WhyForm, Data: d}
			}
			if v := r.Judge(at, at, l.From, coded(t, d)); v != want {
				t.Error(size, link, v)
			}
		}
	}
}

// Link 0 has the gap 100; the delay is 10, and is the jitter.
func TestRatedBudgetP181(t *testing.T) {
	r := made(t, linked())
	d := api.Data{Class: api.Rated, Link: 0, Number: 4, Payload: "z", Size: 100}
	budget := 0
	for _, x := range []struct {
		at   int64
		pass bool
	}{{0, true}, {89, false}, {90, true}, {170, false}, {189, false}, {190, true}, {289, false}, {189, false}, {1000, true},
		{1089, false}, {1090, true}, {1089, false}, {0, false}, {-maxTime, false}, {maxTime + 1, false}, {math.MaxInt64, false},
		{math.MinInt64, false}, {1190, true}, {maxTime, true}, {maxTime, false}} {
		want := Verdict{Data: d, To: 5}
		if !x.pass {
			budget++
			want = Verdict{Why: api.WhyBudget, Data: d}
		}
		if v := r.Judge(x.at, -5, 1, coded(t, d)); v != want {
			t.Error(x, v)
		}
	}
	drops(t, r, 0, 0, budget)
}

// The jitter is what the configuration says of all links, not what a link's own delays are.
func TestRatedJitterP181(t *testing.T) {
	for _, delay := range []int64{0, 1, 30, 100, 250, api.MaxDelay} {
		c := api.Config{Hosts: 2, Cycle: 1, Delay: delay, Delays: [][]int64{{0, 0}, {0, 0}}, Queue: 1,
			Links: []api.Link{{From: 0, To: 2, Gap: 100, Size: 64}}}
		r := made(t, c)
		b := coded(t, api.Data{Class: api.Rated, Size: 64})
		atOnce := int64(0)
		for r.Judge(1000, 0, 0, b).Why == 0 {
			atOnce++
		}
		if want := 1 + delay/100; atOnce != want {
			t.Error(delay, atOnce, want)
		}
		next := 1000 + atOnce*100 - delay
		if r.Judge(next-1, 0, 0, b).Why != api.WhyBudget || r.Judge(next, 0, 0, b).Why != 0 {
			t.Error(delay, "next", next)
		}
	}
}

// Each link has a budget of its own, also where all else of two is the same.
func TestRatedLinksApartP181(t *testing.T) {
	c := linked()
	c.Links = nil
	for range api.MaxLinks {
		c.Links = append(c.Links, api.Link{From: 2, To: 3, Gap: 1000, Size: 64})
	}
	r := made(t, c)
	for link := range c.Links {
		b := coded(t, api.Data{Class: api.Rated, Link: link, Size: 64})
		if v := r.Judge(7, 0, 2, b); v.Why != 0 || v.To != 3 {
			t.Error(link, v)
		}
		if v := r.Judge(7, 0, 2, b); v.Why != api.WhyBudget {
			t.Error(link, v)
		}
	}
	drops(t, r, 0, 0, api.MaxLinks)
}

func TestEffortP181(t *testing.T) {
	for hosts := 1; hosts <= api.MaxHosts; hosts++ {
		r := made(t, conf.Family(hosts, 0))
		forms := 0
		for link := range 256 {
			d := api.Data{Class: api.Effort, Link: link, Number: link, Payload: "any", Size: 64 + link}
			b := coded(t, d)
			for from := range hosts {
				want := Verdict{Data: d, To: 1 << link}
				if link >= hosts || link == from {
					forms++
					want = Verdict{Why: api.WhyForm, Data: d}
				}
				if v := r.Judge(times[link%len(times)], far[link%len(far)], from, b); v != want {
					t.Error(hosts, link, from, v)
				}
			}
		}
		drops(t, r, forms, 0, 0)
	}
}

// Of effort nothing is asked but that it isn't for who sent it: neither how often, nor when, nor whether it is a host.
func TestEffortFromAnybodyP181(t *testing.T) {
	r := made(t, conf.Family(3, 0))
	d := api.Data{Class: api.Effort, Link: 1, Size: 1518}
	for _, from := range []int{0, 0, 0, 2, 3, 6, 7, 257, 1<<32 + 1, -1, math.MinInt, math.MaxInt} {
		for _, at := range append(times, far...) {
			if v := r.Judge(at, -at, from, coded(t, d)); v != (Verdict{Data: d, To: 2}) {
				t.Error(from, at, v)
			}
		}
	}
	drops(t, r, 0, 0, 0)
}

// random is a random configuration with a short cycle.
func random(r *rand.Rand) api.Config {
	c := api.Config{Hosts: 2 + r.Intn(5), Cycle: 1100 + r.Int63n(5000), Queue: 1}
	c.Delay, c.Window, c.Precision = r.Int63n(200), r.Int63n(20), r.Int63n(10)
	for range c.Hosts {
		c.Delays = append(c.Delays, []int64{r.Int63n(c.Delay + 1), r.Int63n(c.Delay + 1)})
	}
	way := func() (int, uint32) {
		from := r.Intn(c.Hosts)
		return from, r.Uint32() & (1<<c.Hosts - 1) &^ (1 << from)
	}
	for range 2 + r.Intn(30) {
		from, to := way()
		with := conf.Copy(c)
		with.Entries = append(with.Entries, api.Entry{From: from, To: to, Phase: r.Int63n(c.Cycle), Size: 64 + r.Intn(3)})
		if conf.Check(with) == 0 {
			c = with
		}
		from, to = way()
		with = conf.Copy(c)
		with.Links = append(with.Links, api.Link{From: from, To: to, Gap: 1 + r.Int63n(1+r.Int63n(3000)), Size: 64 + r.Intn(3)})
		if conf.Check(with) == 0 {
			c = with
		}
	}
	return c
}

// aim is a frame of which a host is told, often one that its sender may send.
func aim(r *rand.Rand, c api.Config) (d api.Data, from int) {
	d = api.Data{Class: 1 + r.Intn(3), Link: r.Intn(6), Number: r.Intn(9), Payload: "abc"[:r.Intn(4)], Size: 64 + r.Intn(4)}
	from = r.Intn(c.Hosts)
	if r.Intn(10) == 0 {
		d.Link = r.Intn(256)
	}
	if r.Intn(6) == 0 {
		return d, from
	}
	switch {
	case d.Class == api.Timed && len(c.Entries) > 0:
		d.Link = r.Intn(len(c.Entries))
		d.Size, from = c.Entries[d.Link].Size, c.Entries[d.Link].From
	case d.Class == api.Rated && len(c.Links) > 0:
		d.Link = r.Intn(len(c.Links))
		d.Size, from = c.Links[d.Link].Size-r.Intn(2), c.Links[d.Link].From
		d.Size = max(d.Size, 64)
	}
	return d, from
}

// window is a local time near the ends of a frame's window in some cycle, if it has one.
func window(r *rand.Rand, c api.Config, d api.Data) int64 {
	local := r.Int63n(3 * c.Cycle)
	if d.Class != api.Timed || d.Link >= len(c.Entries) || r.Intn(4) == 0 {
		return local
	}
	from, to := conf.At(c, c.Entries[d.Link])
	place := []int64{from - 1, from, from + r.Int63n(to-from+1), to, to + 1}[r.Intn(5)]
	return place + []int64{0, c.Cycle, maxTime/c.Cycle*c.Cycle - c.Cycle}[r.Intn(3)]
}

func TestRandomScriptsP181(t *testing.T) {
	r := rand.New(rand.NewSource(18))
	seen := map[[2]int]int{} // by class and why
	for range 400 {
		c := random(r)
		got, want := made(t, c), &model{c: c}
		at := []int64{-maxTime, -50, 0, maxTime - 20000}[r.Intn(4)]
		for range 80 {
			d, from := aim(r, c)
			local := window(r, c, d)
			if r.Intn(20) == 0 {
				local = far[r.Intn(len(far))]
			}
			now := at
			switch r.Intn(12) {
			case 0:
				now -= r.Int63n(300)
			case 1:
				now = far[r.Intn(len(far))]
			case 2, 3, 4, 5:
				at += r.Int63n(500)
				now = at
			}
			v, w := got.Judge(now, local, from, coded(t, d)), want.judge(now, local, from, d)
			if v != w {
				t.Fatal(c, now, local, from, v, w)
			}
			seen[[2]int{d.Class, v.Why}]++
			for why := range 9 {
				if got.Dropped(why) != want.dropped(why) {
					t.Fatal(why, got.Dropped(why), want.dropped(why))
				}
			}
		}
	}
	for _, k := range [][2]int{{1, 0}, {1, 1}, {1, 2}, {2, 0}, {2, 1}, {2, 4}, {3, 0}, {3, 1}} {
		if seen[k] < 100 {
			t.Error("hardly seen", k, seen[k])
		}
	}
	if len(seen) != 8 {
		t.Error(seen)
	}
}

// Whoever sends all the time gets no more of a link over than its budget, in any stretch, whatever goes on beside it.
func TestBudgetP182(t *testing.T) {
	r := rand.New(rand.NewSource(182))
	for range 60 {
		c := random(r)
		if len(c.Links) == 0 {
			continue
		}
		for i := range c.Links {
			c.Links[i].Gap = 1 + r.Int63n(40)
		}
		relay := made(t, c)
		on := make([][300]int64, len(c.Links))
		for at := range int64(300) {
			for range 12 {
				d, from := aim(r, c)
				if v := relay.Judge(at, window(r, c, d), from, coded(t, d)); d.Class == api.Rated && v.Why == 0 {
					on[d.Link][at]++
				}
			}
		}
		for link, l := range c.Links {
			for from := range on[link] {
				n := int64(0)
				for d, k := range on[link][from:] {
					if n += k; n > bucket.Budget(l.Gap, c.Delay, int64(d)) {
						t.Fatal(l, c.Delay, from, d, n)
					}
				}
			}
		}
	}
}

// What sends as soon as it may gets just its budget over, so no less would be right.
func TestBudgetIsReachedP182(t *testing.T) {
	for _, gap := range []int64{1, 3, 10, 100} {
		for _, delay := range []int64{0, 1, 9, 10, 250} {
			c := api.Config{Hosts: 2, Cycle: 1, Delay: delay, Delays: [][]int64{{0, 0}, {0, 0}}, Queue: 1,
				Links: []api.Link{{From: 0, To: 2, Gap: gap, Size: 64}}}
			r, b := made(t, c), coded(t, api.Data{Class: api.Rated, Size: 64})
			n := int64(0)
			for d := range int64(200) {
				for r.Judge(d, 0, 0, b).Why == 0 {
					n++
				}
				if want := bucket.Budget(gap, delay, d); n != want {
					t.Fatal(gap, delay, d, n, want)
				}
			}
		}
	}
}

// A timed frame is judged as a relay that has judged nothing would, at whatever real time.
func TestTimedAloneP183(t *testing.T) {
	r := rand.New(rand.NewSource(183))
	for range 100 {
		c := random(r)
		if len(c.Entries) == 0 {
			continue
		}
		busy, at := made(t, c), int64(0)
		for range 50 {
			for range r.Intn(20) {
				d, from := aim(r, c)
				b := coded(t, d)
				if r.Intn(5) == 0 {
					b[r.Intn(len(b))]++
				}
				at += r.Int63n(100)
				busy.Judge(at, window(r, c, d), from, b)
			}
			d, from := aim(r, c)
			d.Class = api.Timed
			local := window(r, c, d)
			b := coded(t, d)
			want := made(t, c).Judge(0, local, from, b)
			for _, now := range append(far, -maxTime, -1, 0, at, maxTime) {
				if v := busy.Judge(now, local, from, b); v != want {
					t.Fatal(c, now, local, from, v, want)
				}
			}
		}
	}
}

func TestNilP184(t *testing.T) {
	var r *Relay
	for _, b := range [][]byte{nil, []byte("x"), coded(t, api.Data{Class: 1, Size: 64}), coded(t, api.Data{Class: 2, Size: 64}),
		coded(t, api.Data{Class: 3, Link: 2, Payload: "p", Size: 64})} {
		for _, at := range append(times, far...) {
			if v := r.Judge(at, at, 0, b); v != (Verdict{Why: api.WhyForm}) {
				t.Error(at, v)
			}
		}
	}
	for why := -1; why <= 8; why++ {
		if n := r.Dropped(why); n != 0 {
			t.Error(why, n)
		}
	}
}

// Two relays have nothing of one another.
func TestApartR2(t *testing.T) {
	c := linked()
	one, two := made(t, c), made(t, c)
	b := coded(t, api.Data{Class: api.Rated, Size: 64})
	if one.Judge(50, 0, 1, b).Why != 0 || one.Judge(50, 0, 1, b).Why != api.WhyBudget || one.Judge(50, 0, 1, nil).Why != api.WhyForm {
		t.Error(one)
	}
	drops(t, one, 1, 0, 1)
	drops(t, two, 0, 0, 0)
	if two.Judge(0, 0, 1, b).Why != 0 {
		t.Error(two)
	}
}

// What is done to a configuration that was handed in, or to bytes that were judged, comes to nothing.
func TestKeepsCopiesR3(t *testing.T) {
	c := linked()
	was := conf.Copy(c)
	r, want := made(t, c), made(t, was)
	if !conf.Equal(c, was) {
		t.Error("changed", c)
	}
	c.Hosts, c.Cycle, c.Delay, c.Precision, c.Queue = 1, 1, 0, 0, 0
	for i := range c.Delays {
		c.Delays[i][0], c.Delays[i] = -1, nil
	}
	for i := range c.Entries {
		c.Entries[i] = api.Entry{From: 3, To: 1, Phase: 500000, Size: 99}
	}
	for i := range c.Links {
		c.Links[i] = api.Link{From: 3, To: 1, Gap: 1, Size: 1518}
	}
	random := rand.New(rand.NewSource(3))
	for at := range int64(3000) {
		d, from := aim(random, was)
		local := window(random, was, d)
		b := coded(t, d)
		kept := append(slices.Clone(b), 77, 78)
		b = append(b, 77, 78)[:len(b)]
		v := r.Judge(at, local, from, b)
		if !bytes.Equal(b[:len(kept)], kept) {
			t.Fatal("bytes changed", d)
		}
		if w := want.Judge(at, local, from, slices.Clone(b)); v != w {
			t.Fatal(at, local, from, v, w)
		}
		clear(b)
		if v.Data != d {
			t.Fatal("shared", v.Data, d)
		}
	}
}

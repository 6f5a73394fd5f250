package conf

import (
	"math"
	"math/big"
	"math/rand"
	"slices"
	"testing"

	"tocsin/api"
)

// wire is how long a frame of a size that may be is on a wire.
func wire(size int) int64 { return int64(size) * 8 }

// small is a configuration that may be, with two entries and two links that have nothing to do with each other.
func small() api.Config {
	return api.Config{
		Hosts: 4, Cycle: 100000, Delay: 1000, Window: 300, Precision: 100,
		Delays: [][]int64{{0, 1000}, {1, 2}, {3, 4}, {1000, 0}},
		Entries: []api.Entry{
			{From: 0, To: 0b0010, Phase: 10000, Size: 100},
			{From: 2, To: 0b1000, Phase: 10000, Size: 100},
		},
		Links: []api.Link{
			{From: 0, To: 0b1110, Gap: 50, Size: 64},
			{From: 3, To: 0b0001, Gap: 50, Size: 1518},
		},
		Queue: 5,
	}
}

func TestExamplesP81(t *testing.T) {
	c := Family(4, 3)
	if n := Check(c); n != 0 {
		t.Error("Check", n)
	}
	if q := Quiet(c); q != 7000 {
		t.Error("Quiet", q)
	}
	e := c.Entries[0]
	if f, y, l := Forward(c, e), Early(c, e), Late(c, e); f != 13512 || y != 13524 || l != 16524 {
		t.Error("Forward, Early, Late", f, y, l)
	}
	if from, to := At(c, e); from != 10012 || to != 13012 {
		t.Error("At", from, to)
	}
	c.Queue = 0
	if n := Check(c); n != 10 {
		t.Error("Check, Queue 0:", n)
	}
	c.Hosts = 3
	if n := Check(c); n != 4 {
		t.Error("Check, Hosts 3:", n)
	}
	c.Hosts = 7
	if n := Check(c); n != 1 {
		t.Error("Check, Hosts 7:", n)
	}
}

// edge is something done to small, and what keeps it from being one after that.
type edge struct {
	name string
	want int
	do   func(c *api.Config)
}

// rowsFor makes small one of so many hosts, without entries and links.
func rowsFor(c *api.Config, hosts int) {
	c.Hosts, c.Delays, c.Entries, c.Links = hosts, nil, nil, nil
	for range hosts {
		c.Delays = append(c.Delays, []int64{0, 0})
	}
}

func fieldEdges() []edge {
	l := []edge{
		{"nothing", 0, func(c *api.Config) {}},
		{"hosts 1", 0, func(c *api.Config) { rowsFor(c, 1) }},
		{"hosts 6", 0, func(c *api.Config) { rowsFor(c, 6) }},
		{"hosts 7", 1, func(c *api.Config) { rowsFor(c, 7) }},
		{"hosts 0", 1, func(c *api.Config) { rowsFor(c, 0) }},
		{"cycle 1", 0, func(c *api.Config) { c.Cycle, c.Entries = 1, nil }},
		{"row left out", 4, func(c *api.Config) { c.Delays = c.Delays[:3] }},
		{"row too many", 4, func(c *api.Config) { c.Delays = append(c.Delays, []int64{0, 0}) }},
		{"no rows", 4, func(c *api.Config) { c.Delays = nil }},
		{"nil row", 4, func(c *api.Config) { c.Delays[3] = nil }},
		{"short row", 4, func(c *api.Config) { c.Delays[2] = []int64{1} }},
		{"long row", 4, func(c *api.Config) { c.Delays[0] = []int64{1, 1, 1} }},
		{"delay 1001", 4, func(c *api.Config) { c.Delays[3][0] = 1001 }},
		{"delay -1", 4, func(c *api.Config) { c.Delays[1][1] = -1 }},
		{"delay 0", 0, func(c *api.Config) { c.Delays[1][1] = 0 }},
		{"hosts 5", 4, func(c *api.Config) { c.Hosts = 5 }},
		{"hosts 3", 4, func(c *api.Config) { c.Hosts = 3 }},
	}
	for _, n := range []int{math.MinInt, -1, 7, 64, math.MaxInt} {
		l = append(l, edge{"hosts", 1, func(c *api.Config) { c.Hosts = n }})
	}
	for n, want := range map[int64]int{math.MinInt64: 2, -1: 2, 0: 2, 1 << 30: 0, 1<<30 + 1: 2, math.MaxInt64: 2} {
		l = append(l, edge{"cycle", want, func(c *api.Config) { c.Cycle = n }})
	}
	// The quiet time grows with each of the three: ahead of the entries there is room for it in the greatest cycle alone.
	for n, want := range map[int64]int{math.MinInt64: 3, -1: 3, 1 << 20: 0, 1<<20 + 1: 3, math.MaxInt64: 3} {
		for _, at := range []func(c *api.Config) *int64{
			func(c *api.Config) *int64 { return &c.Delay },
			func(c *api.Config) *int64 { return &c.Window },
			func(c *api.Config) *int64 { return &c.Precision },
		} {
			l = append(l, edge{"times", want, func(c *api.Config) {
				c.Cycle, c.Entries = 1<<30, nil
				*at(c) = n
			}})
		}
	}
	for n, want := range map[int]int{math.MinInt: 10, -1: 10, 0: 10, 1: 0, 64: 0, 65: 10, math.MaxInt: 10} {
		l = append(l, edge{"queue", want, func(c *api.Config) { c.Queue = n }})
	}
	return l
}

func wayEdges() []edge {
	var l []edge
	way := func(name string, bad bool, entry func(e *api.Entry), link func(k *api.Link)) {
		five, nine := 0, 0
		if bad {
			five, nine = 5, 9
		}
		for i := range 2 {
			l = append(l,
				edge{"entry " + name, five, func(c *api.Config) { entry(&c.Entries[i]) }},
				edge{"link " + name, nine, func(c *api.Config) { link(&c.Links[i]) }})
		}
	}
	for n, bad := range map[int]bool{math.MinInt: true, -1: true, 2: false, 4: true, 5: true, 6: true, 32: true, math.MaxInt: true} {
		way("from", bad,
			func(e *api.Entry) { e.From, e.To, e.Phase = n, 0b0001, 50000 },
			func(k *api.Link) { k.From, k.To = n, 0b0001 })
	}
	for n, bad := range map[uint32]bool{0: true, 0b0100: false, 0b0101: false, 0b1101: false, 0b0010: true, 0b0110: true, 0b1111: true,
		0b10000: true, 0b10001: true, 0b100001: true, 1<<6 | 1: true, 1<<31 | 1: true, 1 << 31: true, math.MaxUint32: true} {
		way("to", bad,
			func(e *api.Entry) { e.From, e.To, e.Phase = 1, n, 50000 },
			func(k *api.Link) { k.From, k.To = 1, n })
	}
	for n, bad := range map[int]bool{math.MinInt: true, -64: true, 0: true, 63: true, 64: false, 1518: false, 1519: true, math.MaxInt: true} {
		way("size", bad,
			func(e *api.Entry) { e.Size = n },
			func(k *api.Link) { k.Size = n })
	}
	for n, want := range map[int64]int{math.MinInt64: 9, -1: 9, 0: 9, 1: 0, 1 << 30: 0, 1<<30 + 1: 9, math.MaxInt64: 9} {
		l = append(l, edge{"gap", want, func(c *api.Config) { c.Links[1].Gap = n }})
	}
	return l
}

// row lays n entries of one sender down, each as soon as the one ahead is through.
func row(c *api.Config, n int) {
	c.Entries = nil
	for i := range n {
		c.Entries = append(c.Entries, api.Entry{From: 1, To: 1, Phase: 10000 + 512*int64(i), Size: 64})
	}
}

func placeEdges() []edge {
	// The quiet time of small is 2700, and the Late of an entry of 100 bytes lies 3900 behind its Phase.
	l := []edge{
		{"16 entries", 0, func(c *api.Config) { row(c, 16) }},
		{"17 entries", 5, func(c *api.Config) { row(c, 17) }},
		{"no entries", 0, func(c *api.Config) { c.Entries = nil }},
		{"16 links", 0, func(c *api.Config) { c.Links = slices.Repeat(c.Links, 8) }},
		{"17 links", 9, func(c *api.Config) { c.Links = append(slices.Repeat(c.Links, 8), c.Links[0]) }},
		{"no links", 0, func(c *api.Config) { c.Links = nil }},
	}
	for n, want := range map[int64]int{math.MinInt64: 6, -1 << 50: 6, -1: 6, 0: 6, 2699: 6, 2700: 0, 96099: 0, 96100: 6, 99999: 6, 100000: 6,
		1 << 50: 6, 1<<50 + 1: 6, math.MaxInt64 - 3900: 6, math.MaxInt64 - 100: 6, math.MaxInt64: 6} {
		for i := range 2 {
			l = append(l, edge{"phase", want, func(c *api.Config) { c.Entries[i].Phase = n }})
		}
	}
	// Entries that last 800 and 512 nanoseconds.
	for n, want := range map[int64]int{9000: 0, 9488: 0, 9489: 1, 10000: 1, 10400: 1, 10799: 1, 10800: 0, 11000: 0} {
		l = append(l,
			edge{"sender", 7 * want, func(c *api.Config) {
				c.Entries[1] = api.Entry{From: 0, To: 0b1000, Phase: n, Size: 64}
			}},
			edge{"sender and receiver", 7 * want, func(c *api.Config) {
				c.Entries[1] = api.Entry{From: 0, To: 0b0010, Phase: n, Size: 64}
				// As the shorter one is through sooner, it would be forwarded into the longer one's way.
				if n == 10800 || n == 11000 {
					c.Entries[1].Phase += 288
				}
			}})
	}
	// Forwarded from 12000 to 12800, and from Phase + 1712 to Phase + 2224.
	for n, want := range map[int64]int{9000: 0, 9776: 0, 9777: 8, 10000: 8, 10288: 8, 11087: 8, 11088: 0, 12000: 0} {
		l = append(l, edge{"receiver", want, func(c *api.Config) {
			c.Entries[1] = api.Entry{From: 2, To: 0b1010, Phase: n, Size: 64}
		}})
	}
	return append(l,
		edge{"the last of three", 7, func(c *api.Config) {
			row(c, 3)
			c.Entries[2].Phase--
		}},
		edge{"first and last of three", 8, func(c *api.Config) {
			row(c, 3)
			c.Entries[2].From, c.Entries[2].Phase = 2, 10000
		}},
		edge{"one gap at one time", 0, func(c *api.Config) { c.Links[1] = c.Links[0] }},
	)
}

func TestEdgesP81(t *testing.T) {
	for _, l := range [][]edge{fieldEdges(), wayEdges(), placeEdges()} {
		for _, x := range l {
			c := small()
			x.do(&c)
			if n := Check(c); n != x.want {
				t.Errorf("%s: %d, want %d: %+v", x.name, n, x.want, c)
			}
		}
	}
}

func TestLeastIsToldP81(t *testing.T) {
	spoil := []func(c *api.Config){
		func(c *api.Config) { c.Hosts = 7 },
		func(c *api.Config) { c.Cycle = 0 },
		func(c *api.Config) { c.Window = -1 },
		func(c *api.Config) { c.Delays[0] = nil },
		func(c *api.Config) { c.Entries = append(c.Entries, api.Entry{From: 3, To: 4, Phase: 50000, Size: 63}) },
		func(c *api.Config) { c.Entries = append(c.Entries, api.Entry{From: 3, To: 4, Phase: 2699, Size: 64}) },
		func(c *api.Config) { c.Entries = append(c.Entries, api.Entry{From: 0, To: 4, Phase: 10000, Size: 64}) },
		func(c *api.Config) { c.Entries = append(c.Entries, api.Entry{From: 3, To: 2, Phase: 10000, Size: 64}) },
		func(c *api.Config) { c.Links[0].Gap = 0 },
		func(c *api.Config) { c.Queue = 65 },
	}
	for set := range 1 << len(spoil) {
		c, want := small(), 0
		for i := len(spoil) - 1; i >= 0; i-- {
			if set>>i&1 == 1 {
				spoil[i](&c)
				want = i + 1
			}
		}
		if n := Check(c); n != want {
			t.Errorf("%010b: %d, want %d", set, n, want)
		}
	}
}

// model is the list of what keeps a configuration from being one, each asked by itself; where one can't be asked ahead of another's answer, the other stands ahead of it.
func model(c api.Config) int {
	keeps := []func() bool{
		func() bool { return c.Hosts < 1 || c.Hosts > 6 },
		func() bool { return c.Cycle < 1 || c.Cycle > 1<<30 },
		func() bool {
			return min(c.Delay, c.Window, c.Precision) < 0 || max(c.Delay, c.Window, c.Precision) > 1<<20
		},
		func() bool { return badRows(c) },
		func() bool {
			return len(c.Entries) > 16 || slices.ContainsFunc(c.Entries, func(e api.Entry) bool { return badWay(c.Hosts, e.From, e.To, e.Size) })
		},
		func() bool {
			return slices.ContainsFunc(c.Entries, func(e api.Entry) bool {
				_, _, _, _, late := times(c, e)
				quiet := 2*c.Delay + c.Window + 4*c.Precision
				return e.Phase < quiet || late.Cmp(big.NewInt(c.Cycle)) >= 0
			})
		},
		func() bool {
			return anyMeet(c, func(e api.Entry) uint32 { return 1 << e.From }, func(e api.Entry) int64 { return e.Phase })
		},
		func() bool {
			return anyMeet(c, func(e api.Entry) uint32 { return e.To }, func(e api.Entry) int64 {
				_, _, forward, _, _ := times(c, e)
				return forward.Int64()
			})
		},
		func() bool {
			return len(c.Links) > 16 || slices.ContainsFunc(c.Links, func(l api.Link) bool {
				return badWay(c.Hosts, l.From, l.To, l.Size) || l.Gap < 1 || l.Gap > 1<<30
			})
		},
		func() bool { return c.Queue < 1 || c.Queue > 64 },
	}
	for i, holds := range keeps {
		if holds() {
			return i + 1
		}
	}
	return 0
}

func badRows(c api.Config) bool {
	n := 0
	for _, row := range c.Delays {
		for _, d := range row {
			if d < 0 || d > c.Delay {
				return true
			}
			n++
		}
		if n%2 != 0 {
			return true
		}
	}
	return len(c.Delays) != c.Hosts || slices.ContainsFunc(c.Delays, func(row []int64) bool { return len(row) != 2 })
}

func badWay(hosts, from int, to uint32, size int) bool {
	some := false
	for bit := range 32 {
		if to&(1<<bit) != 0 {
			some = true
			if bit >= hosts || bit == from {
				return true
			}
		}
	}
	return !some || from < 0 || from >= hosts || size < 64 || size > 1518
}

// times are an entry's, whatever its numbers are: At's from and to, Forward, Early and Late.
func times(c api.Config, e api.Entry) (from, to, forward, early, late *big.Int) {
	sum := func(n *big.Int, more ...int64) *big.Int {
		s := new(big.Int).Set(n)
		for _, m := range more {
			s.Add(s, big.NewInt(m))
		}
		return s
	}
	w, d, p := wire(e.Size), c.Delay, c.Precision
	phase := big.NewInt(e.Phase)
	from, to = sum(phase, w, -p), sum(phase, w, d, p)
	forward = sum(phase, w, d, p, p)
	return from, to, forward, sum(forward, w, -p), sum(forward, w, d, p)
}

// anyMeet asks of each host that has part in several entries whether, told in their order, one begins while the one ahead of it is still on its way.
func anyMeet(c api.Config, part func(e api.Entry) uint32, begin func(e api.Entry) int64) bool {
	for host := range 6 {
		var l []api.Entry
		for _, e := range c.Entries {
			if part(e)&(1<<host) != 0 {
				l = append(l, e)
			}
		}
		slices.SortFunc(l, func(a, b api.Entry) int { return int(begin(a) - begin(b)) })
		for i := 1; i < len(l); i++ {
			if begin(l[i])-begin(l[i-1]) < wire(l[i-1].Size) {
				return true
			}
		}
	}
	return false
}

// random is a configuration that lacks little of one that may be, or nothing.
func random(r *rand.Rand) api.Config {
	c := api.Config{
		Hosts: 1 + r.Intn(6), Cycle: 30000 + r.Int63n(200000),
		Delay: r.Int63n(1500), Window: r.Int63n(1500), Precision: r.Int63n(700),
		Queue: 1 + r.Intn(64),
	}
	for range c.Hosts {
		c.Delays = append(c.Delays, []int64{r.Int63n(c.Delay + 1), r.Int63n(c.Delay + 1)})
	}
	if c.Hosts > 1 {
		for range r.Intn(9) {
			from, to, size := randomWay(r, c.Hosts)
			c.Entries = append(c.Entries, api.Entry{From: from, To: to, Phase: r.Int63n(c.Cycle), Size: size})
		}
		for range r.Intn(5) {
			from, to, size := randomWay(r, c.Hosts)
			c.Links = append(c.Links, api.Link{From: from, To: to, Gap: 1 + r.Int63n(1<<30), Size: size})
		}
	}
	if r.Intn(3) == 0 {
		spoilOne(r, &c)
	}
	return c
}

func randomWay(r *rand.Rand, hosts int) (from int, to uint32, size int) {
	from = r.Intn(hosts)
	for to == 0 {
		to = r.Uint32() & (1<<hosts - 1) &^ (1 << from)
	}
	return from, to, 64 + r.Intn(300)
}

func spoilOne(r *rand.Rand, c *api.Config) {
	by := []int64{-1, 1, 100000, -100000, 1 << 21, 1 << 31, math.MaxInt64, math.MinInt64}[r.Intn(8)]
	switch r.Intn(9) {
	case 0:
		c.Hosts = int(by)
	case 1:
		c.Cycle = by
	case 2:
		*[]*int64{&c.Delay, &c.Window, &c.Precision}[r.Intn(3)] = by
	case 3:
		c.Delays[r.Intn(c.Hosts)][r.Intn(2)] = by
	case 4:
		c.Delays[r.Intn(c.Hosts)] = make([]int64, r.Intn(4))
	case 5:
		c.Queue = int(by)
	case 6:
		for i := range c.Links {
			*[]*int64{&c.Links[i].Gap, new(int64)}[r.Intn(2)] = by
		}
	case 7:
		for i := range c.Entries {
			c.Entries[i].To |= 1 << r.Intn(32)
		}
	case 8:
		for i := range c.Entries {
			c.Entries[i].Phase += by
		}
	}
}

func TestAgainstModelP81(t *testing.T) {
	r := rand.New(rand.NewSource(8))
	told := map[int]int{}
	for range 200000 {
		c := random(r)
		n, want := Check(c), model(c)
		if n != want {
			t.Fatalf("%d, want %d: %+v", n, want, c)
		}
		told[n]++
	}
	for n := range 11 {
		if told[n] < 100 {
			t.Errorf("%d was told %d times only", n, told[n])
		}
	}
}

// reckoned holds the times of an entry against the model's, or against 0.
func reckoned(t *testing.T, name string, c api.Config, e api.Entry, there bool) {
	t.Helper()
	want := [5]int64{}
	if there {
		from, to, forward, early, late := times(c, e)
		want = [5]int64{from.Int64(), to.Int64(), forward.Int64(), early.Int64(), late.Int64()}
	}
	from, to := At(c, e)
	if got := [5]int64{from, to, Forward(c, e), Early(c, e), Late(c, e)}; got != want {
		t.Errorf("%s: %v, want %v: %+v, %+v", name, got, want, c, e)
	}
}

func TestTimesP81(t *testing.T) {
	for _, cycle := range []int64{1, 1 << 30} {
		for _, delay := range []int64{0, 7, 1 << 20} {
			for _, window := range []int64{0, 11, 1 << 20} {
				for _, precision := range []int64{0, 13, 5000, 1 << 20} {
					// Neither is looked at: how many hosts there are, how many rows, what a port keeps, whether the entry is one of those that it has.
					c := api.Config{Hosts: -5, Cycle: cycle, Delay: delay, Window: window, Precision: precision, Queue: -1}
					if q := Quiet(c); q != 2*delay+window+4*precision {
						t.Errorf("Quiet %d: %+v", q, c)
					}
					for _, phase := range []int64{-1 << 50, -1, 0, 1, 70000, 1 << 50} {
						for _, size := range []int{64, 65, 1517, 1518} {
							reckoned(t, "there", c, api.Entry{From: 5, To: 0b011111, Phase: phase, Size: size}, true)
							reckoned(t, "there", c, api.Entry{From: 0, To: 0b100000, Phase: phase, Size: size}, true)
						}
					}
				}
			}
		}
	}
}

func TestNoTimesP81(t *testing.T) {
	e := small().Entries[0]
	reckoned(t, "sound", small(), e, true)
	for _, n := range []int64{math.MinInt64, -1, 1<<20 + 1, 1<<30 + 1, math.MaxInt64} {
		for i := range 4 {
			c := small()
			*[]*int64{&c.Delay, &c.Window, &c.Precision, &c.Cycle}[i] = n
			here := i == 3 && n == 1<<20+1
			reckoned(t, "times", c, e, here)
			if q := Quiet(c); here != (q == 2700) || !here && q != 0 {
				t.Errorf("Quiet %d: %+v", q, c)
			}
		}
	}
	c := small()
	c.Cycle = 0
	reckoned(t, "cycle 0", c, e, false)
	if q := Quiet(c); q != 0 {
		t.Error("Quiet of cycle 0:", q)
	}
	for _, n := range []int64{math.MinInt64, -1<<50 - 1, 1<<50 + 1, math.MaxInt64} {
		reckoned(t, "phase", small(), api.Entry{From: 0, To: 2, Phase: n, Size: 64}, false)
	}
	for _, n := range []int{math.MinInt, -1, 6, 7, 32, 64, math.MaxInt} {
		reckoned(t, "from", small(), api.Entry{From: n, To: 2, Phase: 5, Size: 64}, false)
	}
	for _, n := range []uint32{0, 0b1000, 0b1001, 1<<6 | 1, 1<<31 | 1, 1 << 6, math.MaxUint32} {
		reckoned(t, "to", small(), api.Entry{From: 3, To: n, Phase: 5, Size: 64}, false)
	}
	for _, n := range []int{math.MinInt, -64, 0, 63, 1519, math.MaxInt} {
		reckoned(t, "size", small(), api.Entry{From: 0, To: 2, Phase: 5, Size: n}, false)
	}
}

// rising says whether an entry's times rise, as far as the Precision is no longer than the frame is on a wire.
func rising(t *testing.T, c api.Config, e api.Entry) {
	t.Helper()
	from, to := At(c, e)
	l := []int64{e.Phase, from, to, Forward(c, e), Early(c, e), Late(c, e)}
	if !slices.IsSorted(l) || c.Cycle <= Late(c, e) || c.Cycle+e.Phase <= Late(c, e) {
		t.Errorf("%v don't rise: %+v", l, c)
	}
	if c.Precision > 0 && to >= Forward(c, e) {
		t.Errorf("At ends at %d, Forward %d: %+v", to, Forward(c, e), c)
	}
}

func TestApartP82(t *testing.T) {
	for hosts := 2; hosts <= 6; hosts++ {
		c := Family(hosts, 16)
		for _, e := range c.Entries {
			rising(t, c, e)
		}
	}
	r := rand.New(rand.NewSource(82))
	asked := 0
	for range 100000 {
		c := random(r)
		if Check(c) != 0 {
			continue
		}
		for _, e := range c.Entries {
			if c.Precision <= wire(e.Size) {
				rising(t, c, e)
				asked++
			}
		}
	}
	if asked < 10000 {
		t.Error("asked of too few entries:", asked)
	}
}

// family is what the chapter says of one, of numbers that are in their range.
func family(hosts, entries int) api.Config {
	c := api.Config{Hosts: hosts, Cycle: 2000000, Delay: 2000, Window: 1000, Precision: 500, Queue: 8}
	for h := range int64(hosts) {
		c.Delays = append(c.Delays, []int64{100 * (h + 1), 100*(h+1) + 50})
	}
	for i := 0; i < entries && hosts > 1; i++ {
		e := api.Entry{From: i % hosts, Phase: 10000 + 50000*int64(i), Size: 64 + i}
		for h := range hosts {
			if h != e.From {
				e.To += 1 << h
			}
		}
		c.Entries = append(c.Entries, e)
	}
	return c
}

// same asks of each field, and of R4's lists, by itself, so that Equal isn't asked about itself.
func same(a, b api.Config) bool {
	rows := len(a.Delays) == len(b.Delays)
	for i := 0; rows && i < len(a.Delays); i++ {
		rows = slices.Equal(a.Delays[i], b.Delays[i])
	}
	return rows && a.Hosts == b.Hosts && a.Cycle == b.Cycle && a.Delay == b.Delay && a.Window == b.Window && a.Precision == b.Precision &&
		slices.Equal(a.Entries, b.Entries) && slices.Equal(a.Links, b.Links) && a.Queue == b.Queue
}

func TestFamilyP81P83(t *testing.T) {
	numbers := []int{math.MinInt, -1, 0, 1, 2, 3, 4, 5, 6, 7, 8, 15, 16, 17, 99, math.MaxInt}
	for _, hosts := range numbers {
		for _, entries := range numbers {
			c := Family(hosts, entries)
			if want := family(min(max(hosts, 1), 6), min(max(entries, 0), 16)); !same(c, want) {
				t.Errorf("Family(%d, %d) = %+v, want %+v", hosts, entries, c, want)
			}
			if n := Check(c); n != 0 {
				t.Errorf("Family(%d, %d): %d", hosts, entries, n)
			}
			apart(t, c)
		}
	}
	if l := Family(1, 5).Entries; len(l) != 0 {
		t.Error("a host alone has", l)
	}
}

// apart asks each nanosecond in which a host is being forwarded to whether only one entry is.
func apart(t *testing.T, c api.Config) {
	t.Helper()
	for host := range c.Hosts {
		busy := map[int64]bool{}
		for _, e := range c.Entries {
			if e.To>>host&1 == 0 {
				continue
			}
			f := Forward(c, e)
			for at := f; at < f+wire(e.Size); at++ {
				if busy[at] {
					t.Fatalf("host %d at %d: %+v", host, at, c)
				}
				busy[at] = true
			}
		}
	}
}

func TestForwardedApartP83(t *testing.T) {
	r := rand.New(rand.NewSource(83))
	asked := 0
	for asked < 200 {
		if c := random(r); Check(c) == 0 && len(c.Entries) > 2 {
			apart(t, c)
			asked++
		}
	}
}

// fields change one field each.
func fields() []func(c *api.Config) {
	return []func(c *api.Config){
		func(c *api.Config) { c.Hosts++ },
		func(c *api.Config) { c.Cycle++ },
		func(c *api.Config) { c.Delay++ },
		func(c *api.Config) { c.Window++ },
		func(c *api.Config) { c.Precision++ },
		func(c *api.Config) { c.Queue++ },
		func(c *api.Config) { c.Delays[0][0]++ },
		func(c *api.Config) { c.Delays[3][1]++ },
		func(c *api.Config) { c.Delays[2] = nil },
		func(c *api.Config) { c.Delays[2] = c.Delays[2][:1] },
		func(c *api.Config) { c.Delays[2] = append(c.Delays[2], 0) },
		func(c *api.Config) { c.Delays = c.Delays[:3] },
		func(c *api.Config) { c.Delays = append(c.Delays, nil) },
		func(c *api.Config) { c.Delays = nil },
		func(c *api.Config) { c.Delays[1], c.Delays[2] = c.Delays[2], c.Delays[1] },
		func(c *api.Config) { c.Entries[0].From++ },
		func(c *api.Config) { c.Entries[1].To |= 1 << 31 },
		func(c *api.Config) { c.Entries[1].Phase++ },
		func(c *api.Config) { c.Entries[0].Size++ },
		func(c *api.Config) { c.Entries[0], c.Entries[1] = c.Entries[1], c.Entries[0] },
		func(c *api.Config) { c.Entries = c.Entries[:1] },
		func(c *api.Config) { c.Entries = append(c.Entries, api.Entry{}) },
		func(c *api.Config) { c.Entries = nil },
		func(c *api.Config) { c.Links[1].From++ },
		func(c *api.Config) { c.Links[0].To |= 1 << 31 },
		func(c *api.Config) { c.Links[0].Gap++ },
		func(c *api.Config) { c.Links[1].Size++ },
		func(c *api.Config) { c.Links[0], c.Links[1] = c.Links[1], c.Links[0] },
		func(c *api.Config) { c.Links = c.Links[1:] },
		func(c *api.Config) { c.Links = append(c.Links, api.Link{}) },
		func(c *api.Config) { c.Links = nil },
	}
}

func TestEqualP81(t *testing.T) {
	if !Equal(small(), small()) || !Equal(api.Config{}, api.Config{}) {
		t.Error("the same aren't equal")
	}
	for i, change := range fields() {
		c := small()
		change(&c)
		if Equal(c, small()) || Equal(small(), c) {
			t.Error("equal, but for change", i)
		}
		if !Equal(c, c) {
			t.Error("not equal to itself, after change", i)
		}
	}
}

func TestEqualR4(t *testing.T) {
	a := api.Config{Delays: [][]int64{nil, {}}}
	b := api.Config{Delays: [][]int64{{}, nil}, Entries: []api.Entry{}, Links: []api.Link{}}
	if !Equal(a, b) || !Equal(b, a) {
		t.Error("nil isn't as empty")
	}
	if !Equal(api.Config{Delays: [][]int64{}}, api.Config{}) {
		t.Error("no rows: nil isn't as empty")
	}
	if Equal(api.Config{Delays: [][]int64{{}}}, api.Config{}) {
		t.Error("an empty row is none")
	}
}

func TestCopyP81R3(t *testing.T) {
	for i, change := range fields() {
		c := small()
		d := Copy(c)
		if !same(d, small()) || !same(c, small()) {
			t.Fatal("not the same")
		}
		change(&d)
		if !same(c, small()) {
			t.Error("the copy shares with what it was made of, change", i)
		}
		d = Copy(c)
		change(&c)
		if !same(d, small()) {
			t.Error("what it was made of shares with the copy, change", i)
		}
		if !same(Copy(c), c) {
			t.Error("no copy, after change", i)
		}
	}
	if c := Copy(api.Config{}); !same(c, api.Config{}) {
		t.Error("a copy of nothing:", c)
	}
}

// spared is small with spare room behind each list, in which something stands.
func spared() (c api.Config, whole []any) {
	c = small()
	row := append(c.Delays[0], 77, 78)
	rows := append(c.Delays, []int64{79}, nil)
	entries := append(c.Entries, api.Entry{From: 80}, api.Entry{Size: 81})
	links := append(c.Links, api.Link{From: 82}, api.Link{Size: 83})
	c.Delays, c.Entries, c.Links = rows[:4:6], entries[:2:4], links[:2:4]
	c.Delays[0] = row[:2:4]
	return c, []any{row, rows, entries, links}
}

func TestGivenIsLeftR3(t *testing.T) {
	c, whole := spared()
	d := Copy(c)
	Check(c)
	Quiet(c)
	for _, e := range c.Entries {
		At(c, e)
		Forward(c, e)
		Early(c, e)
		Late(c, e)
	}
	Equal(c, d)
	fill(&d)
	if !same(c, small()) {
		t.Error("changed")
	}
	row, rows := whole[0].([]int64), whole[1].([][]int64)
	entries, links := whole[2].([]api.Entry), whole[3].([]api.Link)
	if row[2] != 77 || row[3] != 78 || len(rows[4]) != 1 || rows[4][0] != 79 || rows[5] != nil ||
		entries[2].From != 80 || entries[3].Size != 81 || links[2].From != 82 || links[3].Size != 83 {
		t.Error("spare room changed")
	}
}

// fill writes over all of an answer, its spare room too.
func fill(c *api.Config) {
	c.Delays = c.Delays[:cap(c.Delays)]
	for i := range c.Delays {
		row := c.Delays[i][:cap(c.Delays[i])]
		for j := range row {
			row[j] = -9
		}
		c.Delays[i] = nil
	}
	c.Entries = c.Entries[:cap(c.Entries)]
	for i := range c.Entries {
		c.Entries[i] = api.Entry{From: -9}
	}
	c.Links = c.Links[:cap(c.Links)]
	for i := range c.Links {
		c.Links[i] = api.Link{From: -9}
	}
}

func TestAnswersAreNewR3(t *testing.T) {
	c := small()
	a, b := Copy(c), Copy(c)
	fill(&a)
	if !same(b, c) {
		t.Error("two copies share")
	}
	a = Family(6, 16)
	fill(&a)
	if !same(Family(6, 16), family(6, 16)) {
		t.Error("two families share")
	}
	for _, c := range []api.Config{Copy(small()), Family(4, 3)} {
		last := slices.Clone(c.Delays[1])
		row := c.Delays[0][:cap(c.Delays[0])]
		for i := range row {
			row[i] = -9
		}
		if !slices.Equal(c.Delays[1], last) {
			t.Error("two rows share")
		}
	}
}

func TestAgainR2(t *testing.T) {
	r := rand.New(rand.NewSource(2))
	for range 1000 {
		c := random(r)
		n := Check(c)
		Check(random(r))
		Family(3, 9)
		if Check(Copy(c)) != n || Check(c) != n {
			t.Fatal("another answer the second time")
		}
	}
}

func TestWhateverComesR1(t *testing.T) {
	ends := []int64{math.MinInt64, -1, 0, 1, 6, 1 << 20, 1 << 30, 1 << 50, math.MaxInt64}
	r := rand.New(rand.NewSource(1))
	pick := func() int64 { return ends[r.Intn(len(ends))] }
	for range 100000 {
		e := api.Entry{From: int(pick()), To: uint32(pick()), Phase: pick(), Size: int(pick())}
		c := api.Config{
			Hosts: int(pick()), Cycle: pick(), Delay: pick(), Window: pick(), Precision: pick(),
			Delays:  make([][]int64, r.Intn(8)),
			Entries: []api.Entry{e, {From: 1, To: 1, Phase: pick(), Size: 64}},
			Links:   []api.Link{{From: int(pick()), To: uint32(pick()), Gap: pick(), Size: int(pick())}},
			Queue:   int(pick()),
		}
		for i := range c.Delays {
			c.Delays[i] = slices.Repeat([]int64{pick()}, r.Intn(4))
		}
		if n := Check(c); n != model(c) {
			t.Fatalf("%d, want %d: %+v", n, model(c), c)
		}
		reckoned(t, "whatever", c, e, c.Cycle > 0 && c.Cycle <= 1<<30 &&
			min(c.Delay, c.Window, c.Precision) >= 0 && max(c.Delay, c.Window, c.Precision) <= 1<<20 &&
			!badWay(6, e.From, e.To, e.Size) && e.Phase >= -1<<50 && e.Phase <= 1<<50)
		if !Equal(c, Copy(c)) {
			t.Fatal("Copy isn't Equal")
		}
	}
}

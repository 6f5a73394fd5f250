package flow

import (
	"math"
	"slices"
	"strings"
	"testing"

	"tocsin/api"
	"tocsin/conf"
	"tocsin/frame"
)

func got(t int64, node int, local int64, class, link, number int, payload string) api.Tell {
	return api.Tell{Time: t, Kind: 1, Node: node, Local: local, Class: class, Link: link, Number: number, Payload: payload}
}

func drop(t int64, node, class, link, number, why int) api.Tell {
	return api.Tell{Time: t, Kind: 2, Node: node, Class: class, Link: link, Number: number, Why: why}
}

func send(t int64, node, entry int, payload string) api.Act {
	return api.Act{Time: t, Kind: api.ActSend, Node: node, Arg: entry, Payload: payload}
}

func rated(t int64, node, link int, payload string) api.Act {
	return api.Act{Time: t, Kind: api.ActRated, Node: node, Arg: link, Payload: payload}
}

func effort(t int64, node, to, size int, payload string) api.Act {
	return api.Act{Time: t, Kind: api.ActEffort, Node: node, Arg: to, Size: size, Payload: payload}
}

func raw(t int64, node, number int, b string) api.Act {
	return api.Act{Time: t, Kind: api.ActRaw, Node: node, Arg: number, Payload: b}
}

func loss(t int64, node, number, size int) api.Act {
	return api.Act{Time: t, Kind: api.ActLoss, Node: node, Arg: number, Size: size}
}

// bytesOf are the bytes of a frame.
func bytesOf(class, link, number, size int, payload string) string {
	b, e := frame.Data(api.Data{Class: class, Link: link, Number: number, Size: size, Payload: payload})
	if e != api.OK {
		panic(e)
	}
	return string(b)
}

// playOf is a play of two cycles with right clocks.
func playOf(c api.Config, acts ...api.Act) api.Play {
	return api.Play{Config: c, Dials: Perfect(c.Hosts), Acts: acts, Until: 2 * c.Cycle}
}

// duo is a network of two hosts, in which host 0 sends an entry at 10000.
func duo() api.Config { return conf.Family(2, 1) }

// linked is duo with a link from host 0.
func linked(gap int64, size int) api.Config {
	c := duo()
	c.Links = []api.Link{{From: 0, To: 2, Gap: gap, Size: size}}
	return c
}

func tells(t *testing.T, p api.Play, want ...api.Tell) {
	t.Helper()
	if told := runs(t, p); !slices.Equal(told, want) {
		t.Error("of", p.Acts, p.Dials, "\ntold", told, "\nwant", want)
	}
}

func TestExamplesP211(t *testing.T) {
	a, late := got(14224, 1, 14224, 1, 0, 0, "a"), drop(14274, 1, 1, 0, 0, api.WhyTwice)
	tells(t, playOf(duo(), send(0, 0, 0, "a")), a, late)
	tells(t, playOf(duo(), effort(0, 1, 0, 64, "c")), got(1324, 0, 1324, 3, 0, 0, "c"))
	tells(t, playOf(duo(), raw(5, 0, 1, "")), drop(5, 7, 0, 0, 0, api.WhyForm))
	tells(t, playOf(duo(), send(0, 1, 0, "a"), send(0, 0, 1, "a"), loss(0, 0, 2, 5)),
		drop(0, 1, 0, 0, 0, api.WhyForm), drop(0, 0, 0, 0, 0, api.WhyForm), drop(0, 0, 0, 0, 0, api.WhyForm))
	tells(t, playOf(duo(), loss(0, 0, 0, 20000), send(0, 0, 0, " ")), drop(10000, 0, 1, 0, 0, api.WhyLoss), got(14274, 1, 14274, 1, 0, 0, " "))
	tells(t, playOf(duo()))
	tells(t, playOf(linked(5000, 100), rated(0, 0, 0, "x")), got(1900, 1, 1900, 2, 0, 0, "x"), drop(2000, 1, 2, 0, 0, api.WhyTwice))
	ahead := playOf(duo(), send(0, 0, 0, "a"))
	ahead.Dials[0].Base = 400
	tells(t, ahead, a, late)
	two := playOf(duo(), send(0, 0, 0, "a"), send(0, 0, 0, "b"))
	two.Until = 2020000
	tells(t, two, a, late, got(2014224, 1, 2014224, 1, 0, 1, "b"), drop(2014274, 1, 1, 0, 1, api.WhyTwice))
	tells(t, playOf(duo(), effort(9900, 0, 1, 1518, "b")), got(35100, 1, 35100, 3, 1, 0, "b"))
}

// wrongNets are networks that may not be, by each number of chapter 8.
func wrongNets() []api.Config {
	var l []api.Config
	for _, spoil := range []func(c *api.Config){
		func(c *api.Config) { c.Hosts = 0 },
		func(c *api.Config) { c.Hosts = -2 },
		func(c *api.Config) { c.Hosts = 7 },
		func(c *api.Config) { c.Cycle = 0 },
		func(c *api.Config) { c.Cycle = math.MaxInt64 },
		func(c *api.Config) { c.Delay = -1 },
		func(c *api.Config) { c.Precision = api.MaxDelay + 1 },
		func(c *api.Config) { c.Delays = nil },
		func(c *api.Config) { c.Delays[3] = []int64{0} },
		func(c *api.Config) { c.Entries[0].To = 64 },
		func(c *api.Config) { c.Entries[2].Phase = 0 },
		func(c *api.Config) { c.Entries[1] = api.Entry{From: 0, To: 2, Phase: 10100, Size: 64} },
		func(c *api.Config) { c.Entries[1].Phase = 10100 },
		func(c *api.Config) { c.Links = []api.Link{{From: 0, To: 2, Size: 64}} },
		func(c *api.Config) { c.Queue = 0 },
		func(c *api.Config) { c.Queue = 65 },
		func(c *api.Config) { *c = api.Config{} },
	} {
		c := conf.Family(4, 3)
		spoil(&c)
		l = append(l, c)
	}
	return l
}

func refuses(t *testing.T, p api.Play) {
	t.Helper()
	if told, e := Run(p); May(p) || len(told) != 0 || e != api.ErrArg {
		t.Error("goes", p, told, e)
	}
}

func TestNetP211(t *testing.T) {
	for _, c := range wrongNets() {
		for _, dials := range [][]api.Dial{Perfect(4), Perfect(c.Hosts), nil} {
			refuses(t, api.Play{Config: c, Dials: dials})
		}
	}
	refuses(t, api.Play{})
	for hosts := 1; hosts <= 6; hosts++ {
		for entries := range 17 {
			runs(t, playOf(conf.Family(hosts, entries)))
		}
	}
}

func TestDialsP211(t *testing.T) {
	for _, n := range []int{0, 1, 2, 4, 5, 7, 8, 100} {
		p := playOf(conf.Family(4, 3))
		p.Dials = make([]api.Dial, n)
		refuses(t, p)
	}
	right := []api.Dial{
		{Base: maxTime}, {Base: -maxTime}, {Base: maxTime, Rate: 1000}, {Rate: -1000}, {Rate: 1000.0005}, {Rate: -1000.0005},
		{Rate: math.Copysign(0, -1)}, {Rate: 5e-324}, {Rate: 0.0005}, {Base: -1, Rate: 12.3456789},
	}
	wrong := []api.Dial{
		{Base: maxTime + 1}, {Base: -maxTime - 1}, {Base: math.MaxInt64}, {Base: math.MinInt64}, {Rate: 1000.000501}, {Rate: -1000.000501},
		{Rate: 1001}, {Rate: math.NaN()}, {Rate: math.Inf(1)}, {Rate: math.Inf(-1)}, {Rate: 1e300}, {Rate: math.MaxFloat64}, {Base: -1, Rate: -2000},
	}
	for i := range 6 {
		for _, d := range right {
			p := playOf(conf.Family(4, 3), send(0, 0, 0, "a"), effort(0, 1, 2, 64, ""))
			p.Dials[i] = d
			runs(t, p)
		}
		for _, d := range wrong {
			p := playOf(conf.Family(4, 3))
			p.Dials[i] = d
			refuses(t, p)
		}
	}
}

func TestLimitsP211(t *testing.T) {
	p := playOf(duo())
	for _, n := range []int{0, 1, 1023, 1024} {
		p.Acts = make([]api.Act, n)
		if told := runs(t, p); len(told) != n || n > 0 && told[n-1] != drop(0, 0, 0, 0, 0, api.WhyForm) {
			t.Error(n, len(told))
		}
	}
	for _, n := range []int{1025, 2000} {
		p.Acts = make([]api.Act, n)
		refuses(t, p)
	}
	p.Acts = nil
	for _, cycle := range []int64{20000, 2000000, api.MaxCycle} {
		p.Config.Cycle = cycle
		for _, p.Until = range []int64{0, 1, cycle, 64 * cycle} {
			runs(t, p)
		}
		for _, p.Until = range []int64{-1, math.MinInt64, 64*cycle + 1, maxTime / 2, maxTime, math.MaxInt64} {
			refuses(t, p)
		}
	}
}

// What is at the end is done, what is behind it isn't.
func TestUntilP211(t *testing.T) {
	p := playOf(duo(), send(0, 0, 0, "a"), effort(14000, 0, 9, 64, ""))
	all := []api.Tell{got(14224, 1, 14224, 1, 0, 0, "a"), drop(14274, 1, 1, 0, 0, api.WhyTwice), drop(14612, 6, 3, 9, 0, api.WhyForm)}
	for _, p.Until = range []int64{0, 9999, 10000, 13512, 14223, 14224, 14225, 14273, 14274, 14611, 14612, 14613} {
		n := 0
		for n < 3 && all[n].Time <= p.Until {
			n++
		}
		tells(t, p, all[:n]...)
	}
	for _, at := range []int64{math.MinInt64, -1, 0, 99, 100, 101, maxTime, math.MaxInt64} {
		p = playOf(duo(), api.Act{Time: at})
		p.Until = 100
		if at < 0 || at > 100 {
			tells(t, p)
		} else {
			tells(t, p, drop(at, 0, 0, 0, 0, api.WhyForm))
		}
	}
	p = playOf(duo(), send(0, 0, 0, "a"), send(0, 0, 0, "b"))
	p.Until = 2009999
	if told := runs(t, p); len(told) != 2 {
		t.Error(told)
	}
}

// Each act that is refused is told with its own Node, whatever that is.
func TestWrongActsP211(t *testing.T) {
	c := linked(5000, 100)
	c.Entries = append(c.Entries, api.Entry{From: 1, To: 1, Phase: 60000, Size: 1518})
	c.Links = append(c.Links, api.Link{From: 1, To: 1, Gap: 1, Size: 64})
	long := func(n int) string { return strings.Repeat("x", n) }
	wrong := []api.Act{
		send(7, 0, 1, ""), send(7, 1, 0, ""), send(7, 0, 2, ""), send(7, 0, -1, ""), send(7, 1, 16, ""), send(7, 0, math.MinInt, ""), send(7, 0, math.MaxInt, ""),
		send(7, 0, 0, long(51)), send(7, 1, 1, long(1505)), send(7, 0, 0, long(100000)),
		rated(7, 0, 1, ""), rated(7, 1, 0, ""), rated(7, 0, 2, ""), rated(7, 0, -1, ""), rated(7, 0, math.MaxInt, ""), rated(7, 0, math.MinInt, ""),
		rated(7, 0, 0, long(87)), rated(7, 1, 1, long(51)),
		effort(7, 0, -1, 64, ""), effort(7, 0, 256, 64, ""), effort(7, 0, math.MaxInt, 64, ""), effort(7, 0, 1, 63, ""), effort(7, 0, 1, 1519, ""),
		effort(7, 0, 1, 0, ""), effort(7, 0, 1, math.MinInt, ""), effort(7, 0, 1, math.MaxInt, ""), effort(7, 1, 0, 64, long(51)), effort(7, 1, 0, 1518, long(1505)),
		raw(7, 0, -1, ""), raw(7, 0, 2, ""), raw(7, 1, 6, ""), raw(7, 0, math.MaxInt, ""),
		loss(7, 0, -1, 5), loss(7, 0, 2, 5), loss(7, 0, 0, -1), loss(7, 1, 1, math.MinInt),
	}
	for _, node := range []int{-1, 2, 5, 6, 7, 8, math.MinInt, math.MaxInt} {
		wrong = append(wrong, send(7, node, 0, ""), rated(7, node, 0, ""), effort(7, node, 1, 64, ""), raw(7, node, 0, ""), loss(7, node, 0, 5))
	}
	for _, kind := range []int{0, 6, -1, 7, math.MinInt, math.MaxInt} {
		wrong = append(wrong, api.Act{Time: 7, Kind: kind, Size: 64}, api.Act{Time: 7, Kind: kind, Node: 1, Arg: 1, Size: 64})
	}
	for _, a := range wrong {
		tells(t, playOf(c, a), drop(7, a.Node, 0, 0, 0, api.WhyForm))
	}
	for _, a := range []api.Act{send(7, 0, 0, long(50)), send(7, 1, 1, long(1504)), rated(7, 0, 0, long(86)), rated(7, 1, 1, long(50)), effort(7, 1, 0, 64, long(50)), effort(7, 0, 1, 1518, long(1504))} {
		if told := runs(t, playOf(c, a)); len(told) == 0 || told[0].Kind != api.TellGot || told[0].Payload != a.Payload {
			t.Error(a, told)
		}
	}
	for _, to := range []int{0, 2, 6, 255} {
		tells(t, playOf(c, effort(7, 0, to, 64, "")), drop(7+612, 6, 3, to, 0, api.WhyForm))
	}
	tells(t, playOf(c, loss(7, 0, 0, 0), loss(7, 1, 1, math.MaxInt)))
}

// An entry keeps no more than Queue payloads; one at the very time of sending finds them all there yet.
func TestEntryQueueP211(t *testing.T) {
	c := duo()
	c.Queue = 2
	c.Entries = append(c.Entries, api.Entry{From: 0, To: 2, Phase: 60000, Size: 64})
	p := playOf(c, send(0, 0, 0, "a"), send(1, 0, 0, "b"), send(2, 0, 0, "c"), send(3, 0, 0, strings.Repeat("x", 51)), send(4, 0, 1, "d"),
		send(10000, 0, 0, "e"), send(10001, 0, 0, "f"), send(10002, 0, 0, "g"))
	p.Until = 10 * c.Cycle
	told := runs(t, p)
	var refused, landed []api.Tell
	for _, x := range told {
		if x.Class == 0 {
			refused = append(refused, x)
		}
	}
	full := []api.Tell{drop(2, 0, 0, 0, 0, api.WhyFull), drop(3, 0, 0, 0, 0, api.WhyForm), drop(10000, 0, 0, 0, 0, api.WhyFull), drop(10002, 0, 0, 0, 0, api.WhyFull)}
	if !slices.Equal(refused, full) {
		t.Error(refused)
	}
	landed = []api.Tell{got(14224, 1, 14224, 1, 0, 0, "a"), got(64224, 1, 64224, 1, 1, 0, "d"), got(2014224, 1, 2014224, 1, 0, 1, "b"), got(4014224, 1, 4014224, 1, 0, 2, "f")}
	if l := Timed(told); !slices.Equal(l, landed) {
		t.Error(l)
	}
}

// Numbers go on by each act that isn't WhyForm: of each link, and of each host.
func TestNumbersP211(t *testing.T) {
	c := linked(1, 64)
	c.Links = append(c.Links, api.Link{From: 0, To: 2, Gap: 1, Size: 64}, api.Link{From: 1, To: 1, Gap: 1, Size: 64})
	c.Queue = 1
	p := playOf(c,
		rated(100000, 0, 0, "a"), rated(100000, 0, 0, "full"), rated(200000, 0, 0, strings.Repeat("x", 51)), rated(200000, 1, 0, "wrong"), rated(200000, 0, 0, "b"),
		rated(300000, 0, 1, "c"), rated(400000, 1, 2, "d"),
		effort(500000, 0, 1, 64, "e"), effort(500000, 0, 1, 64, "full"), effort(600000, 0, 1, 63, ""), effort(600000, 0, 300, 64, ""), effort(600000, 0, 1, 64, "f"),
		effort(700000, 1, 0, 64, "g"))
	var l []api.Tell
	for _, x := range runs(t, p) {
		if x.Kind == api.TellGot || x.Why == api.WhyFull {
			l = append(l, x)
		}
	}
	want := []api.Tell{
		drop(100000, 0, 2, 0, 1, api.WhyFull), drop(100000, 0, 2, 0, 1, api.WhyFull), got(101324, 1, 101324, 2, 0, 0, "a"),
		got(201324, 1, 201324, 2, 0, 2, "b"), got(301324, 1, 301324, 2, 1, 0, "c"), got(401324, 0, 401324, 2, 2, 0, "d"),
		drop(500000, 0, 3, 1, 1, api.WhyFull), got(501324, 1, 501324, 3, 1, 0, "e"), got(601324, 1, 601324, 3, 1, 2, "f"), got(701324, 0, 701324, 3, 0, 0, "g"),
	}
	if !slices.Equal(l, want) {
		t.Error("told", l, "\nwant", want)
	}
}

// A full port drops the newest, at a host and at a switch; an effort frame goes to switch 0 alone.
func TestPortsP211(t *testing.T) {
	c := conf.Family(3, 0)
	for h := range c.Delays {
		c.Delays[h] = []int64{0, 0}
	}
	c.Queue = 2
	tells(t, playOf(c, effort(0, 0, 2, 64, "a"), effort(0, 0, 2, 64, "b"), effort(0, 0, 2, 64, "c")),
		drop(0, 0, 3, 2, 2, api.WhyFull), got(1024, 2, 1024, 3, 2, 0, "a"), got(1536, 2, 1536, 3, 2, 1, "b"))
	// While one is on its way two wait.
	tells(t, playOf(c, effort(0, 0, 2, 64, "a"), effort(1, 0, 2, 64, "b"), effort(2, 0, 2, 64, "c"), effort(511, 0, 2, 64, "d"), effort(513, 0, 2, 64, "e")),
		drop(511, 0, 3, 2, 3, api.WhyFull), got(1024, 2, 1024, 3, 2, 0, "a"), got(1536, 2, 1536, 3, 2, 1, "b"), got(2048, 2, 2048, 3, 2, 2, "c"), got(2560, 2, 2560, 3, 2, 4, "e"))
	c.Queue = 1
	tells(t, playOf(c, effort(0, 0, 2, 64, "a"), effort(0, 1, 2, 64, "b")),
		drop(512, 6, 3, 2, 0, api.WhyFull), got(1024, 2, 1024, 3, 2, 0, "a"))
	b := bytesOf(3, 2, 9, 64, "raw")
	tells(t, playOf(c, raw(5, 0, 1, b), raw(5, 1, 1, b), raw(5, 0, 0, b)), drop(5, 7, 3, 2, 9, api.WhyFull), got(517, 2, 517, 3, 2, 9, "raw"), got(517, 2, 517, 3, 2, 9, "raw"))
}

// Rated frames go ahead of those that came sooner.
func TestRatedAheadP211(t *testing.T) {
	c := linked(1, 64)
	tells(t, playOf(c, effort(0, 0, 1, 64, "a"), effort(0, 0, 1, 64, "b"), rated(0, 0, 0, "c")),
		got(1324, 1, 1324, 2, 0, 0, "c"), drop(1424, 1, 2, 0, 0, api.WhyTwice), got(1836, 1, 1836, 3, 1, 0, "a"), got(2348, 1, 2348, 3, 1, 1, "b"))
	// What is on its way isn't cut.
	tells(t, playOf(c, effort(0, 0, 1, 64, "a"), effort(0, 0, 1, 64, "b"), rated(1, 0, 0, "c")),
		got(1324, 1, 1324, 3, 1, 0, "a"), got(1425, 1, 1425, 2, 0, 0, "c"), drop(1836, 1, 2, 0, 0, api.WhyTwice), got(2348, 1, 2348, 3, 1, 1, "b"))
}

// A wire loses what begins from the act on, and for so long; both ways, and no other wire.
func TestLossP211(t *testing.T) {
	for _, x := range []struct {
		at    int64
		size  int
		loses bool
	}{
		{1000, 1, true}, {1000, 0, false}, {999, 1, false}, {999, 2, true}, {1001, 5, false}, {0, 1000, false}, {0, 1001, true},
		{1000, math.MaxInt, true}, {0, math.MaxInt, true}, {5, math.MaxInt - 4, true}, {1001, math.MaxInt, false},
	} {
		p := playOf(duo(), loss(x.at, 0, 0, x.size), effort(1000, 0, 1, 64, "a"))
		if x.loses {
			tells(t, p, drop(1000, 0, 3, 1, 0, api.WhyLoss))
		} else {
			tells(t, p, got(2324, 1, 2324, 3, 1, 0, "a"))
		}
		p = playOf(duo(), loss(x.at, 1, 0, x.size), raw(1000, 0, 0, bytesOf(3, 1, 5, 64, "a")))
		if x.loses {
			tells(t, p, drop(1000, 6, 3, 1, 5, api.WhyLoss))
		} else {
			tells(t, p, got(1712, 1, 1712, 3, 1, 5, "a"))
		}
	}
	for _, l := range []api.Act{loss(0, 0, 1, 5000), loss(0, 1, 1, 5000)} {
		tells(t, playOf(duo(), l, effort(1000, 0, 1, 64, "a")), got(2324, 1, 2324, 3, 1, 0, "a"))
	}
	// A shorter one within a longer one, and one that goes on where another ends.
	tells(t, playOf(duo(), loss(0, 0, 0, 5000), loss(500, 0, 0, 1), effort(1000, 0, 1, 64, "a")), drop(1000, 0, 3, 1, 0, api.WhyLoss))
	tells(t, playOf(duo(), loss(0, 0, 0, 1000), loss(900, 0, 0, 101), effort(1000, 0, 1, 64, "a")), drop(1000, 0, 3, 1, 0, api.WhyLoss))
	tells(t, playOf(duo(), loss(0, 0, 0, 1000), loss(1001, 0, 0, 101), effort(1000, 0, 1, 64, "a")), got(2324, 1, 2324, 3, 1, 0, "a"))
	// What is lost takes its time on the wire like any other.
	tells(t, playOf(duo(), loss(1000, 0, 0, 1), effort(1000, 0, 1, 64, "a"), effort(1000, 0, 1, 64, "b")), drop(1000, 0, 3, 1, 0, api.WhyLoss), got(2836, 1, 2836, 3, 1, 1, "b"))
	// Switch 1's copy stands in for the one that is lost on its way to the host.
	tells(t, playOf(duo(), loss(13512, 1, 0, 1), send(0, 0, 0, "a")), drop(13512, 6, 1, 0, 0, api.WhyLoss), got(14274, 1, 14274, 1, 0, 0, "a"))
}

// fast is a network whose host 0 sends at 50000 by a clock that shows it at 49951.
func fast(acts ...api.Act) api.Play {
	c := linked(1, 1518)
	c.Entries[0].Phase = 50000
	p := playOf(c, acts...)
	p.Dials[0].Rate = 1000
	return p
}

// A frame that is through when a timed one comes arrives; one that isn't is cut.
func TestCutP211(t *testing.T) {
	timed := []api.Tell{got(54224, 1, 54224, 1, 0, 0, "t"), drop(54274, 1, 1, 0, 0, api.WhyTwice)}
	through := fast(send(0, 0, 0, "t"), effort(37807, 0, 1, 1518, "a"))
	tells(t, through, append(slices.Clone(timed), got(54024+12144+200, 1, 66368, 3, 1, 0, "a"))...)
	for _, at := range []int64{37808, 37819} {
		tells(t, fast(send(0, 0, 0, "t"), effort(at, 0, 1, 1518, "a")), append([]api.Tell{drop(49951, 0, 3, 1, 0, api.WhyCut)}, timed...)...)
		tells(t, fast(send(0, 0, 0, "t"), rated(at, 0, 0, "a")), append([]api.Tell{drop(49951, 0, 2, 0, 0, api.WhyCut), drop(49951, 0, 2, 0, 0, api.WhyCut)}, timed...)...)
		// Without anything to send nothing is cut.
		if told := runs(t, fast(effort(at, 0, 1, 1518, "a"))); len(told) != 1 || told[0].Kind != api.TellGot {
			t.Error(at, told)
		}
	}
	// What would meet the entry's stretch by the host's own clock waits behind it.
	waits := fast(send(0, 0, 0, "t"), effort(37820, 0, 1, 1518, "a"))
	tells(t, waits, append(slices.Clone(timed), got(50463+12144+100+12144+200, 1, 75051, 3, 1, 0, "a"))...)
}

// What was cut doesn't come in later, whatever else goes over its wire; what was lost and then cut is told of both times.
func TestLostCutP211(t *testing.T) {
	p := fast(send(0, 0, 0, "t"), loss(37808, 0, 0, 1), effort(37808, 0, 1, 1518, "a"), effort(37808, 0, 1, 64, "b"))
	tells(t, p, drop(37808, 0, 3, 1, 0, api.WhyLoss), drop(49951, 0, 3, 1, 0, api.WhyCut),
		got(50463+512+100+512+200, 1, 51787, 3, 1, 1, "b"), got(54224, 1, 54224, 1, 0, 0, "t"), drop(54274, 1, 1, 0, 0, api.WhyTwice))
	p = fast(send(0, 0, 0, "t"), loss(49951, 0, 0, 1), effort(37808, 0, 1, 1518, "a"))
	tells(t, p, drop(49951, 0, 3, 1, 0, api.WhyCut), drop(49951, 0, 1, 0, 0, api.WhyLoss), got(54274, 1, 54274, 1, 0, 0, "t"))
}

// A switch cuts likewise, by its own clock.
func TestSwitchCutP211(t *testing.T) {
	p := fast(send(0, 0, 0, "t"))
	p.Dials[0].Rate, p.Dials[2].Rate = 0, 1000
	// Its clock shows Forward, 53512, at 53459: a frame that came in at 41315 is just through.
	for _, x := range []struct {
		at  int64
		cut bool
	}{{41315, false}, {41316, true}, {41326, true}} {
		p.Acts = []api.Act{send(0, 0, 0, "t"), raw(x.at, 0, 0, bytesOf(3, 1, 7, 1518, "a"))}
		want := []api.Tell{drop(53459, 6, 3, 1, 7, api.WhyCut), got(54171, 1, 54171, 1, 0, 0, "t"), drop(54274, 1, 1, 0, 0, api.WhyTwice)}
		if !x.cut {
			want[0] = got(53659, 1, 53659, 3, 1, 7, "a")
		}
		tells(t, p, want...)
	}
}

// A timed frame doesn't cut another one: it isn't sent itself.
func TestTimedLeftP211(t *testing.T) {
	b := bytesOf(1, 0, 77, 64, "raw")
	twice := playOf(duo(), raw(10700, 0, 0, b), raw(10701, 0, 0, bytesOf(1, 0, 78, 64, "late")))
	tells(t, twice, drop(13512, 6, 1, 0, 78, api.WhyCut), got(14224, 1, 14224, 1, 0, 77, "raw"))
	// At a host whose fast clock shows the next Phase ahead of the first frame's end.
	c := conf.Family(3, 0)
	c.Entries = []api.Entry{{From: 0, To: 2, Phase: 10000, Size: 1518}, {From: 0, To: 4, Phase: 22144, Size: 64}}
	p := playOf(c, send(0, 0, 0, "a"), send(0, 0, 1, "b"))
	a := []api.Tell{got(37488, 1, 37488, 1, 0, 0, "a"), drop(37538, 1, 1, 0, 0, api.WhyTwice)}
	b2 := []api.Tell{got(26468, 2, 26468, 1, 1, 0, "b"), drop(26518, 2, 1, 1, 0, api.WhyTwice)}
	tells(t, p, append(b2, a...)...)
	p.Dials[0].Rate = 1000
	left := drop(22122, 0, 1, 1, 0, api.WhyCut)
	tells(t, p, append([]api.Tell{left, left}, a...)...)
}

// A frame goes as soon as it is free of what is reserved, whether that is made use of or not.
func TestWaitP211(t *testing.T) {
	for _, x := range []struct{ at, begins int64 }{{9487, 9487}, {9488, 9488}, {9489, 10512}, {9999, 10512}, {10000, 10512}, {10511, 10512}, {10512, 10512}, {10513, 10513}} {
		there := x.begins + 512 + 200 // switch 0 may forward from here on; there 13512 to 14024 are reserved
		tells(t, playOf(duo(), effort(x.at, 0, 8, 64, "a")), drop(x.begins+612, 6, 3, 8, 0, api.WhyForm))
		tells(t, playOf(duo(), effort(x.at, 1, 0, 64, "b")), got(x.at+1324, 0, x.at+1324, 3, 0, 0, "b"))
		if there < 13000 {
			tells(t, playOf(duo(), effort(x.at, 0, 1, 64, "c")), got(there+612, 1, there+612, 3, 1, 0, "c"))
		}
	}
	for _, x := range []struct{ at, begins int64 }{{13000, 13000}, {13001, 14024}, {13512, 14024}, {14023, 14024}, {14024, 14024}, {14025, 14025}} {
		tells(t, playOf(duo(), raw(x.at, 0, 0, bytesOf(3, 1, 0, 64, "d"))), got(x.begins+712, 1, x.begins+712, 3, 1, 0, "d"))
		tells(t, playOf(duo(), raw(x.at, 1, 1, bytesOf(3, 0, 0, 64, "e"))), got(x.at+662, 0, x.at+662, 3, 0, 0, "e"))
	}
	// The next cycle is reserved likewise.
	tells(t, playOf(duo(), effort(2009489, 0, 8, 64, "a")), drop(2010512+612, 6, 3, 8, 0, api.WhyForm))
	// While one waits for a gap that is long enough, a rated one that fits goes ahead.
	c := linked(1, 64)
	c.Entries = append(c.Entries, api.Entry{From: 0, To: 2, Phase: 11100, Size: 64})
	p := playOf(c, effort(9000, 0, 8, 1518, "long"), rated(10100, 0, 0, "short"), effort(11700, 0, 8, 64, "last"))
	tells(t, p, got(10512+612+512+200, 1, 11836, 2, 0, 0, "short"), drop(11936, 1, 2, 0, 0, api.WhyTwice), drop(11612+12144+100, 6, 3, 8, 0, api.WhyForm), drop(11612+12144+612, 6, 3, 8, 1, api.WhyForm))
}

// What fits into no gap stays, and what is behind it; the run ends.
func TestNeverFitsP211(t *testing.T) {
	c := duo()
	c.Cycle, c.Delay, c.Window, c.Precision = 4000, 300, 0, 0
	c.Entries[0].Phase = 700
	c.Links = []api.Link{{From: 0, To: 2, Gap: 1, Size: 512}, {From: 0, To: 2, Gap: 1, Size: 436}, {From: 0, To: 2, Gap: 1, Size: 437}}
	effortToo := effort(100, 0, 1, 64, "a")
	p := playOf(c, rated(0, 0, 0, ""), effortToo)
	p.Until = 64 * c.Cycle
	tells(t, p)
	p.Acts = []api.Act{rated(0, 0, 2, ""), effortToo} // 3496 nanoseconds, where 3488 are free
	tells(t, p)
	p.Acts = []api.Act{rated(0, 0, 1, "")}
	tells(t, p, got(6024+3488+200, 1, 9712, 2, 1, 0, ""), drop(9762, 1, 2, 1, 0, api.WhyTwice))
}

// A clock that shows no local time of the schedule yet, or none any more, lets nothing go, and isn't asked again till the
// next frame comes.
func TestNoWaitP211(t *testing.T) {
	p := playOf(duo(), effort(0, 0, 8, 64, "a"), effort(4999, 0, 8, 64, "b"), effort(6000, 0, 8, 64, "c"))
	p.Dials[0].Base = -5000
	tells(t, p, drop(6612, 6, 3, 8, 0, api.WhyForm), drop(7124, 6, 3, 8, 1, api.WhyForm), drop(7636, 6, 3, 8, 2, api.WhyForm))
	p.Acts = p.Acts[:2]
	tells(t, p)
	p.Acts = []api.Act{effort(4999, 0, 8, 64, "b"), effort(5000, 0, 8, 64, "c")}
	tells(t, p, drop(5612, 6, 3, 8, 0, api.WhyForm), drop(6124, 6, 3, 8, 1, api.WhyForm))
	p.Dials[0].Base = maxTime - 1000
	p.Acts = []api.Act{effort(1000, 0, 8, 64, "b"), effort(1001, 0, 8, 64, "c"), effort(1512, 0, 8, 64, "d")}
	told := runs(t, p)
	if len(told) != 1 || told[0].Time != 1612 {
		t.Error(told)
	}
}

// At one time: acts in their order, then what arrives, at hosts by their numbers and then at switches, then timed frames,
// and in the end what has waited, by who sends and as it was asked.
func TestOrderP211(t *testing.T) {
	p := playOf(conf.Family(3, 0), api.Act{Time: 5, Node: 2}, api.Act{Time: 3, Node: 1}, api.Act{Time: 5, Node: 0}, api.Act{Time: 3, Node: 9}, api.Act{Time: 5, Node: 1})
	tells(t, p, drop(3, 1, 0, 0, 0, 1), drop(3, 9, 0, 0, 0, 1), drop(5, 2, 0, 0, 0, 1), drop(5, 0, 0, 0, 0, 1), drop(5, 1, 0, 0, 0, 1))
	// An act at the time of sending counts; one behind it doesn't.
	a, late := got(14224, 1, 14224, 1, 0, 0, "a"), drop(14274, 1, 1, 0, 0, api.WhyTwice)
	tells(t, playOf(duo(), send(10000, 0, 0, "a")), a, late)
	next := playOf(duo(), send(10001, 0, 0, "a"))
	next.Until = 2014224
	tells(t, next, got(2014224, 1, 2014224, 1, 0, 1, "a"))
	tells(t, playOf(duo(), send(0, 0, 0, "a"), loss(10000, 0, 0, 1)), drop(10000, 0, 1, 0, 0, api.WhyLoss), got(14274, 1, 14274, 1, 0, 0, "a"))
	// Refused at 1324, got at host 0, dropped at switch 0.
	tells(t, playOf(duo(), api.Act{Time: 1324, Node: 7}, effort(612, 1, 1, 64, "x"), effort(0, 1, 0, 64, "c")),
		drop(1324, 7, 0, 0, 0, 1), got(1324, 0, 1324, 3, 0, 0, "c"), drop(1324, 6, 3, 1, 1, api.WhyForm))
	c := conf.Family(4, 1)
	for h := range c.Delays {
		c.Delays[h] = []int64{70, 70}
	}
	c.Links = []api.Link{{From: 3, To: 7, Gap: 1000000, Size: 64}}
	var all []api.Tell
	for _, h := range []int{1, 2, 3} {
		all = append(all, got(14094, h, 14094, 1, 0, 0, "a"), drop(14094, h, 1, 0, 0, api.WhyTwice))
	}
	tells(t, playOf(c, send(0, 0, 0, "a")), all...)
	// Both switches refuse the second frame at one time.
	two := runs(t, playOf(c, rated(0, 3, 0, "a"), rated(600, 3, 0, "b")))
	if want := []api.Tell{drop(1182, 6, 2, 0, 1, api.WhyBudget), drop(1182, 7, 2, 0, 1, api.WhyBudget)}; !slices.Equal(two[len(two)-2:], want) {
		t.Error(two)
	}
	// Lost at one time: by the hosts' numbers, switch 0 first; a timed one ahead of what waits, though that is of a lesser host.
	c = conf.Family(4, 2)
	c.Links = []api.Link{{From: 0, To: 2, Gap: 1, Size: 64}, {From: 2, To: 2, Gap: 1, Size: 64}}
	var acts []api.Act
	for h := range 4 {
		acts = append(acts, loss(0, h, 1, 100000), loss(0, h, 0, 100000))
	}
	acts = append(acts, send(0, 1, 1, "t"), rated(60000, 2, 1, "a"), rated(60000, 0, 0, "b"))
	tells(t, playOf(c, acts...), drop(60000, 1, 1, 1, 0, 7), drop(60000, 1, 1, 1, 0, 7),
		drop(60000, 0, 2, 0, 0, 7), drop(60000, 0, 2, 0, 0, 7), drop(60000, 2, 2, 1, 0, 7), drop(60000, 2, 2, 1, 0, 7))
}

// What is asked at one time, by one sender, comes in the order in which it was laid down: at 1512 as the wires began to be
// busy at 1000, not as frames came in since.
func TestAskingOrderP211(t *testing.T) {
	c := conf.Family(3, 0)
	for h := range c.Delays {
		c.Delays[h] = []int64{0, 0}
	}
	lost := []api.Act{loss(1000, 1, 0, 5000), loss(1000, 2, 0, 5000)}
	b := func(to, n int) string { return bytesOf(3, to, n, 64, "") }
	p := playOf(c, append(lost, raw(1000, 0, 0, b(2, 1)), raw(1000, 0, 0, b(1, 2)), raw(1001, 0, 0, b(1, 3)), raw(1001, 0, 0, b(2, 4)))...)
	tells(t, p, drop(1000, 6, 3, 2, 1, 7), drop(1000, 6, 3, 1, 2, 7), drop(1512, 6, 3, 2, 4, 7), drop(1512, 6, 3, 1, 3, 7))
}

// A clock that is ahead begins with the first cycle whose Phase isn't behind it.
func TestFirstCycleP211(t *testing.T) {
	for _, x := range []struct{ base, number, at int64 }{
		{-1000, 0, 11000}, {0, 0, 10000}, {1, 0, 9999}, {9999, 0, 1}, {10000, 0, 0}, {10001, 1, 1999999}, {2010000, 1, 0}, {2010001, 2, 1999999},
		{2000000, 1, 10000}, {1 << 40 / 2000000 * 2000000, 1 << 40 / 2000000, 10000},
	} {
		p := playOf(duo(), send(0, 0, 0, "a"))
		for i := range p.Dials {
			p.Dials[i].Base = x.base
		}
		n, local := int(x.number), x.number*2000000
		tells(t, p, got(x.at+4224, 1, local+14224, 1, 0, n, "a"), drop(x.at+4274, 1, 1, 0, n, api.WhyTwice))
		// An act that comes too late for it is for the next cycle.
		p.Acts[0].Time, p.Until = x.at+1, 6000000
		if l := Timed(runs(t, p)); len(l) != 1 || l[0].Number != n+1 {
			t.Error(x, l)
		}
	}
	never := playOf(duo(), send(0, 0, 0, "a"))
	never.Dials[0].Base = -maxTime
	tells(t, never)
}

// Numbers of timed frames are the cycle's modulo 2^31; the next one behind the last is 0.
func TestNumberP211(t *testing.T) {
	p := playOf(duo(), send(0, 0, 0, "a"), send(0, 0, 0, "b"))
	p.Config.Cycle = 100000
	p.Until = 115000
	begin := int64(1<<31*100000 - 100000)
	for i := range p.Dials {
		p.Dials[i].Base = begin
	}
	tells(t, p, got(14224, 1, begin+14224, 1, 0, 1<<31-1, "a"), drop(14274, 1, 1, 0, 1<<31-1, api.WhyTwice),
		got(114224, 1, begin+114224, 1, 0, 0, "b"), drop(114274, 1, 1, 0, 0, api.WhyTwice))
}

// Clocks that are too far apart: at a switch, and at a host, each by its own one.
func TestWindowP211(t *testing.T) {
	for _, x := range []struct {
		base int64
		in   bool
	}{{-601, false}, {-600, true}, {0, true}, {2400, true}, {2401, false}} {
		p := playOf(duo(), send(0, 0, 0, "a"), loss(0, 0, 1, math.MaxInt))
		p.Dials[1].Base, p.Dials[2].Base = x.base, x.base
		lost := drop(10000, 0, 1, 0, 0, api.WhyLoss)
		if x.in {
			tells(t, p, lost, got(14224-x.base, 1, 14224, 1, 0, 0, "a"))
		} else {
			tells(t, p, lost, drop(10612, 6, 1, 0, 0, api.WhyWindow))
		}
	}
	for _, x := range []struct {
		base int64
		in   bool
	}{{-701, false}, {-700, true}, {2300, true}, {2301, false}} {
		p := playOf(duo(), send(0, 0, 0, "a"), loss(0, 0, 1, math.MaxInt))
		p.Dials[1].Base = x.base
		lost := drop(10000, 0, 1, 0, 0, api.WhyLoss)
		if x.in {
			tells(t, p, lost, got(14224, 1, 14224+x.base, 1, 0, 0, "a"))
		} else {
			tells(t, p, lost, drop(14224, 1, 1, 0, 0, api.WhyWindow))
		}
	}
}

// A slow clock showed Forward one nanosecond ago: the frame goes on at once, not ahead of now.
func TestForwardNowP211(t *testing.T) {
	c := duo()
	c.Precision = 0
	forward := conf.Forward(c, c.Entries[0])
	for _, x := range []struct{ at, goes int64 }{{998, 1000}, {999, 1000}, {1000, 1000}, {1001, 1001}} {
		p := playOf(c, raw(x.at, 0, 0, bytesOf(1, 0, 3, 64, "a")))
		p.Dials[2] = api.Dial{Base: forward - 999, Rate: -1000}
		p.Dials[1].Base = forward - 999
		tells(t, p, got(x.goes+712, 1, forward-999+x.goes+712, 1, 0, 3, "a"))
	}
	p := playOf(c, raw(1002, 0, 0, bytesOf(1, 0, 3, 64, "a")))
	p.Dials[2] = api.Dial{Base: forward - 999, Rate: -1000}
	tells(t, p, drop(1002, 6, 1, 0, 3, api.WhyWindow))
}

// What comes in raw comes as from that host, at once, at that switch.
func TestRawP211(t *testing.T) {
	c := linked(5000, 100)
	timed, link, spoilt := bytesOf(1, 0, 9, 64, "t"), bytesOf(2, 0, 8, 64, "r"), []byte(bytesOf(3, 0, 7, 64, "e"))
	spoilt[20] ^= 1
	tells(t, playOf(c, raw(10012, 0, 0, timed)), got(14224, 1, 14224, 1, 0, 9, "t"))
	tells(t, playOf(c, raw(13012, 0, 1, timed)), got(14274, 1, 14274, 1, 0, 9, "t"))
	tells(t, playOf(c, raw(10011, 0, 0, timed)), drop(10011, 6, 1, 0, 9, api.WhyWindow))
	tells(t, playOf(c, raw(13013, 0, 1, timed)), drop(13013, 7, 1, 0, 9, api.WhyWindow))
	tells(t, playOf(c, raw(10612, 1, 0, timed)), drop(10612, 6, 1, 0, 9, api.WhyForm))
	tells(t, playOf(c, raw(0, 0, 0, link), raw(2999, 0, 0, link), raw(3000, 0, 0, link), raw(3000, 0, 1, link)),
		got(712, 1, 712, 2, 0, 8, "r"), drop(2999, 6, 2, 0, 8, api.WhyBudget), drop(3000+712, 1, 2, 0, 8, api.WhyTwice), drop(3762, 1, 2, 0, 8, api.WhyTwice))
	tells(t, playOf(c, raw(4, 0, 1, string(spoilt)), raw(3, 1, 0, string(spoilt)), raw(5, 1, 0, strings.Repeat("x", 100000)), raw(6, 0, 0, "")),
		drop(3, 6, 0, 0, 0, 1), drop(4, 7, 0, 0, 0, 1), drop(5, 6, 0, 0, 0, 1), drop(6, 6, 0, 0, 0, 1))
}

func TestTimedP211(t *testing.T) {
	l := []api.Tell{
		got(1, 2, 3, 1, 5, 6, "a"), got(1, 2, 3, 2, 5, 6, "b"), drop(1, 2, 1, 3, 4, 5), got(1, 2, 3, 3, 5, 6, "c"), {}, {Kind: 1}, {Class: 1}, {Kind: 3, Class: 1},
		got(0, -1, 0, 1, 0, 0, ""), {Kind: 1, Class: 1, Why: 7}, got(1, 2, 3, 1, 5, 6, "a"), {Kind: -1, Class: 1}, {Kind: 1, Class: -1}, {Kind: math.MaxInt, Class: 1},
	}
	before := slices.Clone(l)
	want := []api.Tell{l[0], l[8], l[9], l[10]}
	timed := Timed(l)
	if !slices.Equal(timed, want) || !slices.Equal(l, before) {
		t.Error(timed, l)
	}
	clear(timed[:cap(timed)])
	if !slices.Equal(l, before) {
		t.Error("shared", l)
	}
	all := Timed(l[8:11])
	clear(all[:cap(all)])
	if !slices.Equal(l, before) {
		t.Error("shared", l)
	}
	for _, l := range [][]api.Tell{nil, {}, {{}}} {
		if len(Timed(l)) != 0 {
			t.Error(Timed(l))
		}
	}
}

func TestPerfectP211(t *testing.T) {
	for _, x := range []struct{ hosts, n int }{{math.MinInt, 2}, {-1, 2}, {0, 2}, {1, 3}, {2, 4}, {5, 7}, {6, 8}, {7, 8}, {8, 8}, {1000, 8}, {math.MaxInt, 8}} {
		if l := Perfect(x.hosts); !slices.Equal(l, make([]api.Dial, x.n)) {
			t.Error(x, l)
		}
	}
	a, b := Perfect(2), Perfect(2)
	a[0].Base = 5
	if b[0].Base != 0 {
		t.Error("shared")
	}
}

// What is handed in stays as it is, its spare room too, and isn't kept.
func TestMemoryP211(t *testing.T) {
	c := linked(5000, 100)
	c.Delays = append(make([][]int64, 0, 9), c.Delays...)
	c.Entries = append(make([]api.Entry, 0, 9), c.Entries...)
	c.Links = append(make([]api.Link, 0, 9), c.Links...)
	p := playOf(c, send(0, 0, 0, "a"), effort(0, 1, 0, 64, "b"), rated(5, 0, 0, "c"), api.Act{})
	p.Dials = append(make([]api.Dial, 0, 9), p.Dials...)
	p.Acts = append(make([]api.Act, 0, 9), p.Acts...)
	q := api.Play{Config: conf.Copy(c), Dials: slices.Clone(p.Dials), Acts: slices.Clone(p.Acts), Until: p.Until}
	told, again := runs(t, p), runs(t, q)
	same := conf.Equal(p.Config, q.Config) && slices.Equal(p.Dials, q.Dials) && slices.Equal(p.Acts, q.Acts) && p.Until == q.Until
	for _, d := range p.Dials[:9][4:] {
		same = same && d == api.Dial{}
	}
	for _, a := range p.Acts[:9][4:] {
		same = same && a == api.Act{}
	}
	for _, e := range c.Entries[:9][1:] {
		same = same && e == api.Entry{}
	}
	if !same || !slices.Equal(told, again) {
		t.Error("changed", p, told)
	}
	p.Config.Delays[0][0], p.Config.Entries[0], p.Acts[0], p.Dials[0].Base = 7, api.Entry{}, api.Act{}, 9
	if !slices.Equal(told, again) {
		t.Error("kept", told)
	}
	clear(told[:cap(told)])
	if !slices.Equal(runs(t, q), again) {
		t.Error("shared", again)
	}
}

package flow

import (
	"math"
	"math/rand"
	"slices"
	"strings"
	"testing"

	"tocsin/api"
	"tocsin/bucket"
	"tocsin/conf"
	"tocsin/crew"
	"tocsin/frame"
)

func pick[T any](r *rand.Rand, l ...T) T { return l[r.Intn(len(l))] }

// spread is a number from -n to n, often an end or the middle.
func spread(r *rand.Rand, n int64) int64 { return pick(r, -n, n, 0, r.Int63n(2*n+1)-n) }

func anySize(r *rand.Rand) int { return pick(r, 64, 64, 65, 100, 1518, 64+r.Intn(1455)) }

// anyCrew is a crew of some hosts, without one of them.
func anyCrew(r *rand.Rand, hosts, but int) uint32 {
	for {
		if to := uint32(r.Intn(1<<hosts)) &^ (1 << but); to != 0 {
			return to
		}
	}
}

// anyNet is a network that may be, its schedule often dense.
func anyNet(r *rand.Rand) api.Config {
	c := api.Config{
		Hosts:     pick(r, 1, 2, 2, 3, 4, 6),
		Cycle:     pick(r, 6000, 20000, 50000, 200000, 10000+r.Int63n(100000)),
		Delay:     pick[int64](r, 0, 10, 500, 2000),
		Window:    pick[int64](r, 0, 100),
		Precision: pick[int64](r, 0, 0, 1, 30, 500),
		Queue:     pick(r, 1, 2, 3, 8, 64),
	}
	for range c.Hosts {
		c.Delays = append(c.Delays, []int64{pick(r, 0, c.Delay, r.Int63n(c.Delay+1)), pick(r, 0, c.Delay, r.Int63n(c.Delay+1))})
	}
	if c.Hosts == 1 {
		return c
	}
	quiet, next := conf.Quiet(c), int64(0)
	for range r.Intn(40) {
		from := r.Intn(c.Hosts)
		e := api.Entry{From: from, To: anyCrew(r, c.Hosts, from), Phase: pick(r, quiet, next, r.Int63n(c.Cycle)), Size: anySize(r)}
		d := c
		d.Entries = append(slices.Clone(c.Entries), e)
		if conf.Check(d) == 0 {
			c = d
			next = e.Phase + frame.Time(e.Size)
		}
	}
	for range r.Intn(5) {
		from := r.Intn(c.Hosts)
		c.Links = append(c.Links, api.Link{From: from, To: anyCrew(r, c.Hosts, from), Gap: pick(r, 1, 600, 5000, r.Int63n(20000)+1), Size: anySize(r)})
	}
	return c
}

// anyDials are clocks that are often nearly right, and now and then far off.
func anyDials(r *rand.Rand, c api.Config) []api.Dial {
	dials := Perfect(c.Hosts)
	kind := r.Intn(8)
	about := pick(r, 0, 0, 5*c.Cycle, 1<<40, 1<<31*c.Cycle-c.Cycle)
	for i := range dials {
		d := &dials[i]
		if kind > 0 {
			d.Base = min(about, maxTime)
		}
		if kind > 1 {
			d.Base = min(d.Base+spread(r, c.Precision), maxTime)
		}
		if kind > 2 {
			d.Rate = float64(spread(r, 1000000)) / 1000
		}
		if kind > 4 {
			d.Rate = 1000
		}
		if kind == 6 && len(c.Entries) > 0 {
			// Of each 1001 numbers such a clock leaves out the last but one: here that at which something reserved ends.
			e := c.Entries[r.Intn(len(c.Entries))]
			d.Base = (pick(r, e.Phase, conf.Forward(c, e)) + frame.Time(e.Size) - 1000) % 1001
		}
		if kind == 7 && r.Intn(4) == 0 {
			d.Base = pick(r, -maxTime, maxTime, -1, -c.Cycle/2, -1000, maxTime-3000, r.Int63n(2*c.Cycle+1), spread(r, maxTime), spread(r, 5000))
		}
	}
	return dials
}

// anyPlay is a play that may be; its acts' times are often such at which something else happens.
func anyPlay(r *rand.Rand) api.Play {
	p := api.Play{Config: anyNet(r)}
	p.Dials = anyDials(r, p.Config)
	p.Until = pick(r, 0, p.Config.Cycle, 3*p.Config.Cycle, 5*p.Config.Cycle, r.Int63n(4*p.Config.Cycle))
	last := int64(0)
	for range pick(r, 3, 20, 60, 100) {
		t := pick(r, 0, last, last, last+600, r.Int63n(p.Until+2), r.Int63n(p.Until+2))
		if len(p.Config.Entries) > 0 && r.Intn(2) == 0 {
			t = anyMoment(r, p) + pick(r, -1, 0, 0, 1, 100, -600, -512, -1000, r.Int63n(1000))
		}
		last = t
		p.Acts = append(p.Acts, anyAct(r, p.Config, t))
		if len(p.Config.Entries) > 0 && r.Intn(3) == 0 {
			p.Acts = append(p.Acts, anyCut(r, p)...)
		}
	}
	return p
}

// shownBy is when a node's clock shows a place of one of the first cycles that it comes to.
func shownBy(r *rand.Rand, p api.Play, node int, place int64) int64 {
	i := node
	if node >= 6 {
		i = node - 6 + p.Config.Hosts
	}
	d := dial{p.Dials[i].Base, nearest(p.Dials[i].Rate * 1000)}
	t, _ := d.when((max(d.base, 0)/p.Config.Cycle+r.Int63n(4))*p.Config.Cycle + place)
	return t
}

// anyMoment is about when an entry is sent, at a switch, forwarded, or got.
func anyMoment(r *rand.Rand, p api.Play) int64 {
	e := p.Config.Entries[r.Intn(len(p.Config.Entries))]
	from, to := conf.At(p.Config, e)
	switch r.Intn(3) {
	case 0:
		return shownBy(r, p, e.From, e.Phase)
	case 1:
		return shownBy(r, p, 6+r.Intn(2), pick(r, from, to, conf.Forward(p.Config, e)))
	}
	return shownBy(r, p, r.Intn(p.Config.Hosts), pick(r, conf.Early(p.Config, e), conf.Late(p.Config, e)))
}

// anyCut are acts by which an entry's frame comes to its wire when a long frame is just through, or nearly so, which now
// and then is lost.
func anyCut(r *rand.Rand, p api.Play) []api.Act {
	i := r.Intn(len(p.Config.Entries))
	e := p.Config.Entries[i]
	receiver := crew.First(e.To)
	off := api.MaxSize*8 - r.Int63n(16)
	w := r.Intn(2)
	t := shownBy(r, p, 6+w, conf.Forward(p.Config, e)) - off
	b, _ := frame.Data(api.Data{Class: 3, Link: receiver, Payload: "cut", Size: api.MaxSize})
	long := api.Act{Time: t, Kind: api.ActRaw, Node: e.From, Arg: w, Payload: string(b)}
	lost := receiver
	if r.Intn(2) == 0 {
		t = shownBy(r, p, e.From, e.Phase) - off
		long = api.Act{Time: t, Kind: api.ActEffort, Node: e.From, Arg: receiver, Size: api.MaxSize, Payload: "cut"}
		lost, w = e.From, 0
	}
	for l, link := range p.Config.Links {
		if link.Size == api.MaxSize && r.Intn(2) == 0 {
			b, _ := frame.Data(api.Data{Class: 2, Link: l, Payload: "cut", Size: api.MaxSize})
			long.Node, long.Arg, long.Payload = link.From, w, string(b)
			if long.Kind == api.ActEffort {
				long.Kind, long.Arg, long.Payload = api.ActRated, l, "cut"
			}
		}
	}
	acts := []api.Act{{Time: max(t-30000, 0), Kind: api.ActSend, Node: e.From, Arg: i, Payload: "timed"}, long}
	if r.Intn(4) == 0 {
		acts = append(acts, api.Act{Time: t, Kind: api.ActLoss, Node: lost, Arg: w, Size: 1})
	}
	return acts
}

func anyAct(r *rand.Rand, c api.Config, t int64) api.Act {
	a := api.Act{Time: t, Kind: 1 + r.Intn(5), Node: r.Intn(c.Hosts), Payload: payload(r)}
	switch a.Kind {
	case api.ActSend:
		a.Arg = r.Intn(len(c.Entries) + 1)
		if a.Arg < len(c.Entries) {
			a.Node = c.Entries[a.Arg].From
		}
	case api.ActRated:
		a.Arg = r.Intn(len(c.Links) + 1)
		if a.Arg < len(c.Links) {
			a.Node = c.Links[a.Arg].From
		}
	case api.ActEffort:
		a.Arg, a.Size = r.Intn(c.Hosts), anySize(r)
	case api.ActRaw:
		a.Arg = r.Intn(2)
		a.Node, a.Payload = anyRaw(r, c)
	case api.ActLoss:
		a.Arg = r.Intn(2)
		a.Size = pick(r, 0, 1, 600, 3000, 20000, math.MaxInt, r.Intn(20000))
	}
	if r.Intn(30) == 0 {
		a.Node = pick(r, -1, c.Hosts, 6, 7, math.MinInt, math.MaxInt)
	}
	if r.Intn(30) == 0 {
		a.Arg = pick(r, -1, c.Hosts, 2, 15, 16, 255, 256, math.MinInt, math.MaxInt)
	}
	if r.Intn(30) == 0 {
		a.Size = pick(r, -1, 0, 63, 1519, math.MinInt, math.MaxInt)
	}
	if r.Intn(40) == 0 {
		a.Kind = pick(r, 0, 6, -1, math.MinInt, math.MaxInt)
	}
	return a
}

func payload(r *rand.Rand) string {
	return strings.Repeat(string(rune('a'+r.Intn(26))), pick(r, 0, 1, 1, 2, 50, 51, r.Intn(1600)))
}

// anyRaw are bytes of a host, mostly a frame that the switch lets go on.
func anyRaw(r *rand.Rand, c api.Config) (int, string) {
	d := api.Data{Class: 3, Link: r.Intn(c.Hosts), Number: r.Intn(100), Payload: "raw", Size: anySize(r)}
	node := r.Intn(c.Hosts)
	if n := len(c.Entries); n > 0 && r.Intn(2) == 0 {
		i := r.Intn(n)
		d.Class, d.Link, d.Size, node = 1, i, c.Entries[i].Size, c.Entries[i].From
	} else if n := len(c.Links); n > 0 && r.Intn(2) == 0 {
		i := r.Intn(n)
		d.Class, d.Link, d.Size, node = 2, i, c.Links[i].Size-r.Intn(2), c.Links[i].From
	}
	switch r.Intn(12) {
	case 0:
		d.Link = r.Intn(256)
	case 1:
		d.Size = anySize(r)
	case 2:
		node = r.Intn(c.Hosts)
	}
	b, _ := frame.Data(d)
	if len(b) > 0 && r.Intn(8) == 0 {
		b[r.Intn(len(b))] ^= 1
	}
	return node, string(b)
}

// kindOf is what is told, in a few letters: g or d; h for a host, s for a switch; the class and why.
func kindOf(t api.Tell) string {
	kind, node := "g", "h"
	if t.Kind == api.TellDrop {
		kind = "d"
	}
	if t.Node == 6 || t.Node == 7 {
		node = "s"
	}
	return kind + node + string(rune('0'+t.Class)) + string(rune('0'+t.Why))
}

func runs(t *testing.T, p api.Play) []api.Tell {
	t.Helper()
	told, e := Run(p)
	if e != api.OK || !May(p) {
		t.Fatal("refused", e, p)
	}
	return told
}

// Random plays tell what the model tells; all that can come of a play does come about.
func TestRunP211(t *testing.T) {
	t.Parallel()
	r := rand.New(rand.NewSource(1))
	seen := map[string]int{}
	lostCut, notAgain, skipped := 0, 0, 0
	for range 3000 {
		p := anyPlay(r)
		m := modelOf(p)
		m.play()
		if told := runs(t, p); !slices.Equal(told, m.told) {
			for i := range max(len(told), len(m.told)) {
				if i >= len(told) || i >= len(m.told) || told[i] != m.told[i] {
					t.Fatal(p.Config, p.Dials, p.Until, "\nfrom", i, "on told", told[i:], "\nwant", m.told[i:])
				}
			}
		}
		for _, x := range m.told {
			seen[kindOf(x)]++
		}
		lostCut += m.lostCut
		notAgain += m.notAgain
		skipped += m.skipped
	}
	t.Log(seen, lostCut, notAgain, skipped)
	for _, what := range strings.Fields("gh10 gh20 gh30 dh01 dh05 dh12 dh13 dh16 dh17 dh23 dh25 dh26 dh27 dh35 dh36 dh37 ds01 ds11 ds12 ds16 ds17 ds21 ds24 ds25 ds26 ds27 ds31 ds35 ds36 ds37") {
		if seen[what] < 20 {
			t.Error("seldom:", what, seen[what])
		}
	}
	if lostCut < 20 || notAgain < 20 || skipped < 20 {
		t.Error("seldom:", lostCut, notAgain, skipped)
	}
}

// The same play tells the same again.
func TestAgainP211(t *testing.T) {
	t.Parallel()
	r := rand.New(rand.NewSource(2))
	for range 300 {
		p := anyPlay(r)
		told := runs(t, p)
		for range 3 {
			if again := runs(t, p); !slices.Equal(told, again) {
				t.Fatal(p, "\ntold", told, "\nand", again)
			}
		}
	}
}

// without are the acts that are of none of the kinds.
func without(acts []api.Act, kinds ...int) []api.Act {
	return slices.DeleteFunc(slices.Clone(acts), func(a api.Act) bool { return slices.Contains(kinds, a.Kind) })
}

func TestTimedAloneP212(t *testing.T) {
	t.Parallel()
	r := rand.New(rand.NewSource(3))
	got := 0
	for range 2000 {
		p := anyPlay(r)
		all := Timed(runs(t, p))
		q := p
		q.Acts = without(p.Acts, api.ActRated, api.ActEffort)
		if alone := Timed(runs(t, q)); !slices.Equal(all, alone) {
			t.Fatal(p, "\ntold", all, "\nalone", alone)
		}
		got += len(all)
	}
	if got < 5000 {
		t.Error("seldom", got)
	}
}

// given are the payloads that were given for an entry or a link by acts of a kind, or came in raw.
func given(p api.Play, kind, class int) map[[2]any]bool {
	all := map[[2]any]bool{}
	for _, a := range p.Acts {
		if a.Kind == kind {
			all[[2]any{a.Arg, a.Payload}] = true
		}
		if d, e := frame.ReadData([]byte(a.Payload)); a.Kind == api.ActRaw && e == api.OK && d.Class == class {
			all[[2]any{d.Link, d.Payload}] = true
		}
	}
	return all
}

func TestOnceP213(t *testing.T) {
	t.Parallel()
	r := rand.New(rand.NewSource(4))
	got := map[int]int{}
	for range 2000 {
		p := anyPlay(r)
		kinds := map[int]map[[2]any]bool{1: given(p, api.ActSend, 1), 2: given(p, api.ActRated, 2), 3: given(p, api.ActEffort, 3)}
		cycles := map[[3]int64]bool{}
		numbers := map[[2]int]int{}
		for _, x := range runs(t, p) {
			if x.Kind != api.TellGot {
				continue
			}
			got[x.Class]++
			if !kinds[x.Class][[2]any{x.Link, x.Payload}] {
				t.Fatal(p, "never given", x)
			}
			key := [2]int{x.Node, x.Link}
			switch last, ok := numbers[key]; {
			case x.Class == api.Timed:
				k := [3]int64{int64(x.Node), int64(x.Link), x.Local / p.Config.Cycle}
				if cycles[k] {
					t.Fatal(p, "twice in a cycle", x)
				}
				cycles[k] = true
			case x.Class == api.Rated:
				if ok && x.Number <= last {
					t.Fatal(p, "not rising", last, x)
				}
				numbers[key] = x.Number
			}
		}
	}
	if got[1] < 5000 || got[2] < 1000 || got[3] < 1000 {
		t.Error("seldom", got)
	}
}

// just are what is got of the timed frames that were sent, by all who should, at a time behind the cycle's beginning.
func just(p api.Play, sent []api.Tell) []api.Tell {
	var want []api.Tell
	for _, s := range sent {
		e := p.Config.Entries[s.Link]
		for h, delays := range p.Config.Delays {
			at := s.Local*p.Config.Cycle + conf.Forward(p.Config, e) + frame.Time(e.Size) + min(delays[0], delays[1])
			if e.To>>h&1 == 1 && at <= p.Until {
				want = append(want, api.Tell{Time: at, Kind: api.TellGot, Node: h, Local: at, Class: 1, Link: s.Link, Number: s.Number, Payload: s.Payload})
			}
		}
	}
	return want
}

// inOrder is a list of what was told, by time, node and link.
func inOrder(l []api.Tell) []api.Tell {
	l = slices.Clone(l)
	slices.SortFunc(l, func(a, b api.Tell) int {
		for _, d := range []int64{a.Time - b.Time, int64(a.Node - b.Node), int64(a.Link - b.Link), int64(a.Number - b.Number)} {
			if d != 0 {
				return int(d)
			}
		}
		return strings.Compare(a.Payload, b.Payload)
	})
	return l
}

func TestJustSoP214(t *testing.T) {
	t.Parallel()
	r := rand.New(rand.NewSource(5))
	got := 0
	for range 2000 {
		p := anyPlay(r)
		p.Dials = Perfect(p.Config.Hosts)
		p.Acts = without(p.Acts, api.ActLoss, api.ActRaw)
		m := modelOf(p)
		m.play()
		want := inOrder(just(p, m.sent))
		if told := inOrder(Timed(runs(t, p))); !slices.Equal(told, want) {
			t.Fatal(p, "\ntold", told, "\nwant", want)
		}
		got += len(want)
	}
	if got < 5000 {
		t.Error("seldom", got)
	}
}

// The schedule holds, whatever one of the switches loses, and whatever else goes over the network.
func TestScheduleP2(t *testing.T) {
	t.Parallel()
	r := rand.New(rand.NewSource(6))
	got := 0
	for range 2000 {
		p := anyPlay(r)
		dead := r.Intn(2)
		for i := range p.Dials {
			p.Dials[i] = api.Dial{Base: r.Int63n(p.Config.Precision+1) + 3*p.Config.Cycle}
		}
		p.Acts = slices.DeleteFunc(p.Acts, func(a api.Act) bool {
			return a.Kind == api.ActRaw || a.Kind == api.ActLoss && a.Arg != dead
		})
		m := modelOf(p)
		m.play()
		type one struct {
			node, link, number int
			payload            string
		}
		landed := map[one]int{}
		for _, x := range Timed(runs(t, p)) {
			landed[one{x.Node, x.Link, x.Number, x.Payload}]++
			e := p.Config.Entries[x.Link]
			if place := x.Local - int64(x.Number)*p.Config.Cycle; place < conf.Early(p.Config, e) || place > conf.Late(p.Config, e) {
				t.Fatal(p, "outside its window", x)
			}
		}
		for _, s := range m.sent {
			e := p.Config.Entries[s.Link]
			for h := range p.Config.Hosts {
				// What is under way at the end needn't be got.
				if e.To>>h&1 == 0 || s.Time+conf.Late(p.Config, e)-e.Phase+p.Config.Precision > p.Until {
					continue
				}
				got++
				if n := landed[one{h, s.Link, s.Number, s.Payload}]; n != 1 {
					t.Fatal(p, s, "is got by", h, "so often:", n)
				}
			}
		}
	}
	if got < 2000 {
		t.Error("seldom", got)
	}
}

// No switch lets more of a rated link go on than its budget: a host that hears one switch alone gets no more.
func TestBudgetP4(t *testing.T) {
	t.Parallel()
	r := rand.New(rand.NewSource(7))
	refused, reached := 0, 0
	for range 2000 {
		p := anyPlay(r)
		deaf := r.Intn(2)
		p.Acts = p.Acts[:min(len(p.Acts), api.MaxActs-p.Config.Hosts)]
		for h := range p.Config.Hosts {
			p.Acts = append(p.Acts, loss(0, h, deaf, math.MaxInt))
		}
		passed := map[[2]int]int64{}
		for _, x := range runs(t, p) {
			if x.Kind == api.TellDrop && x.Why == api.WhyBudget {
				refused++
			}
			if x.Class == api.Rated && (x.Kind == api.TellGot || x.Why == api.WhyTwice) {
				passed[[2]int{x.Node, x.Link}]++
			}
		}
		for key, n := range passed {
			most := bucket.Budget(p.Config.Links[key[1]].Gap, p.Config.Delay, p.Until)
			if n > most {
				t.Fatal(p, key, n, most)
			}
			if n == most {
				reached++
			}
		}
	}
	if refused < 100 || reached < 20 {
		t.Error("seldom", refused, reached)
	}
}

// A host gets no frame of other traffic more often than it was given.
func TestEffortOnceP5(t *testing.T) {
	t.Parallel()
	r := rand.New(rand.NewSource(8))
	got := 0
	for range 1500 {
		p := anyPlay(r)
		given := map[[2]any]int{}
		for i, a := range p.Acts {
			if a.Kind == api.ActEffort {
				p.Acts[i].Payload = a.Payload[:min(len(a.Payload), 40)] + string(rune(256+i))
				given[[2]any{a.Arg, p.Acts[i].Payload}] = 1
			}
			if d, e := frame.ReadData([]byte(a.Payload)); a.Kind == api.ActRaw && e == api.OK {
				given[[2]any{d.Link, d.Payload}]++
			}
		}
		for _, x := range runs(t, p) {
			if x.Kind != api.TellGot || x.Class != api.Effort {
				continue
			}
			got++
			key := [2]any{x.Node, x.Payload}
			if given[key]--; given[key] < 0 {
				t.Fatal(p, "more often than given", x)
			}
		}
	}
	if got < 1000 {
		t.Error("seldom", got)
	}
}

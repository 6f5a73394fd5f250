package flow

import (
	"slices"
	"sort"

	"tocsin/api"
	"tocsin/frame"
)

const maxTime = 1 << 50

// What an event of the model is.
const (
	isAct = iota
	isArrival
	isSending
	isForward
	isAsking
)

// event is an event of the model; of those that are alike the one that stands ahead in its list was laid down first.
type event struct {
	t          int64
	rank, node int
	what       int
	act        api.Act
	cable      *cable
	d          api.Data
	entry      int
	k          int64
}

// cable is a wire of the model, with its port.
type cable struct {
	from, to, host int
	down           bool
	delay          int64
	began, off     int64
	over           api.Data
	port           []api.Data
	losses         [][2]int64
}

// dial is a clock of the model.
type dial struct{ base, rate int64 }

// mark is where a bucket's mark is, if there is one.
type mark struct {
	at, last int64
	set      bool
}

// model plays a play in the chapter's words, with one list of events that is looked through for each.
type model struct {
	p        api.Play
	now      int64
	events   []event
	dials    map[int]dial
	cables   []*cable
	waiting  map[int][]string
	rated    map[int]int
	effort   map[int]int
	buckets  [2][16]mark
	cycles   map[[2]int]int64 // by host and entry: the last cycle that was taken
	numbers  map[[2]int]int   // by host and link: the greatest number that was taken
	told     []api.Tell
	sent     []api.Tell // what entries sent: who, which, what
	lostCut  int        // frames that were lost, and cut too
	notAgain int        // askings for which Wait told nothing
	skipped  int        // askings that found the clock beyond what was waited for
}

// floorDiv is a / b downwards.
func floorDiv(a, b int64) int64 {
	q := a / b
	if a%b < 0 {
		q--
	}
	return q
}

// at is what a clock shows at a real time.
func (d dial) at(t int64) int64 {
	return d.base + t + t/1e9*d.rate + floorDiv(t%1e9*d.rate, 1e9)
}

// when is the first time at which a clock shows a number, looked for among all.
func (d dial) when(shown int64) (int64, bool) {
	t := int64(sort.Search(maxTime+1, func(i int) bool { return d.at(int64(i)) >= shown }))
	return t, t <= maxTime
}

func modelOf(p api.Play) *model {
	m := &model{p: p, dials: map[int]dial{}, waiting: map[int][]string{}, rated: map[int]int{}, effort: map[int]int{}, cycles: map[[2]int]int64{}, numbers: map[[2]int]int{}}
	hosts := p.Config.Hosts
	for i, d := range p.Dials {
		node := i
		if i >= hosts {
			node = 6 + i - hosts
		}
		m.dials[node] = dial{d.Base, nearest(d.Rate * 1000)}
	}
	for h := range hosts {
		for w := range 2 {
			delay := p.Config.Delays[h][w]
			m.cables = append(m.cables, &cable{from: h, to: 6 + w, host: h, delay: delay}, &cable{from: 6 + w, to: h, host: h, down: true, delay: delay})
		}
	}
	for _, a := range p.Acts {
		if a.Time >= 0 {
			m.lay(event{t: a.Time, what: isAct, act: a})
		}
	}
	for i, e := range p.Config.Entries {
		shown := m.dials[e.From].base
		k := max(0, floorDiv(shown-e.Phase+p.Config.Cycle-1, p.Config.Cycle))
		m.laySending(i, k)
	}
	return m
}

// nearest is the nearest whole number, of two as near the even one.
func nearest(x float64) int64 {
	n := int64(x)
	for _, c := range []int64{n - 1, n + 1} {
		d, best := float64(c)-x, float64(n)-x
		if d*d < best*best || d*d == best*best && c%2 == 0 {
			n = c
		}
	}
	return n
}

func (m *model) lay(e event) { m.events = append(m.events, e) }

func (m *model) laySending(entry int, k int64) {
	e := m.p.Config.Entries[entry]
	if t, ok := m.dials[e.From].when(k*m.p.Config.Cycle + e.Phase); ok {
		m.lay(event{t: t, rank: 2, node: e.From, what: isSending, entry: entry, k: k})
	}
}

// layAsking lays an asking down, unless there is one already.
func (m *model) layAsking(c *cable, t int64) {
	for _, e := range m.events {
		if e.what == isAsking && e.cable == c && e.t == t {
			return
		}
	}
	m.lay(event{t: t, rank: 3, node: c.from, what: isAsking, cable: c})
}

func (m *model) play() {
	for len(m.events) > 0 {
		first := 0
		for i, e := range m.events {
			if f := m.events[first]; e.t < f.t || e.t == f.t && (e.rank < f.rank || e.rank == f.rank && e.node < f.node) {
				first = i
			}
		}
		e := m.events[first]
		if e.t > m.p.Until {
			return
		}
		m.events = slices.Delete(m.events, first, first+1)
		m.now = e.t
		m.do(e)
	}
}

func (m *model) do(e event) {
	switch e.what {
	case isAct:
		if why := m.act(e.act); why != 0 {
			m.drop(e.act.Node, api.Data{}, why)
		}
	case isArrival:
		if e.node < 6 {
			m.atHost(e.node, e.d)
		} else {
			m.atSwitch(e.node-6, e.cable.from, e.d, true)
		}
	case isSending:
		m.sendEntry(e.entry, e.k)
	case isForward:
		m.force(e.cable, e.d)
	case isAsking:
		m.asked(e.cable)
	}
}

func (m *model) shown(node int) int64 { return m.dials[node].at(m.now) }

func (m *model) cable(from, to int) *cable {
	for _, c := range m.cables {
		if c.from == from && c.to == to {
			return c
		}
	}
	return nil
}

func (m *model) drop(node int, d api.Data, why int) {
	m.told = append(m.told, api.Tell{Time: m.now, Kind: 2, Node: node, Class: d.Class, Link: d.Link, Number: d.Number, Why: why})
}

func (m *model) act(a api.Act) int {
	c := m.p.Config
	if a.Node < 0 || a.Node >= c.Hosts || a.Kind < 1 || a.Kind > 5 || a.Kind >= 4 && a.Arg != 0 && a.Arg != 1 || a.Kind == 5 && a.Size < 0 {
		return 1
	}
	switch a.Kind {
	case 1:
		if a.Arg < 0 || a.Arg >= len(c.Entries) || c.Entries[a.Arg].From != a.Node || len(a.Payload) > c.Entries[a.Arg].Size-14 {
			return 1
		}
		if len(m.waiting[a.Arg]) >= c.Queue {
			return 5
		}
		m.waiting[a.Arg] = append(m.waiting[a.Arg], a.Payload)
	case 2:
		if a.Arg < 0 || a.Arg >= len(c.Links) || c.Links[a.Arg].From != a.Node || len(a.Payload) > c.Links[a.Arg].Size-14 {
			return 1
		}
		d := api.Data{Class: 2, Link: a.Arg, Number: m.rated[a.Arg], Payload: a.Payload, Size: c.Links[a.Arg].Size}
		m.rated[a.Arg]++
		m.offer(m.cable(a.Node, 6), d)
		m.offer(m.cable(a.Node, 7), d)
	case 3:
		if a.Arg < 0 || a.Arg > 255 || a.Size < 64 || a.Size > 1518 || len(a.Payload) > a.Size-14 {
			return 1
		}
		d := api.Data{Class: 3, Link: a.Arg, Number: m.effort[a.Node], Payload: a.Payload, Size: a.Size}
		m.effort[a.Node]++
		m.offer(m.cable(a.Node, 6), d)
	case 4:
		d, e := frame.ReadData([]byte(a.Payload))
		m.atSwitch(a.Arg, a.Node, d, e == api.OK)
	case 5:
		to := m.now + int64(a.Size)
		if to < m.now {
			to = 1<<63 - 1
		}
		for _, c := range []*cable{m.cable(a.Node, 6+a.Arg), m.cable(6+a.Arg, a.Node)} {
			c.losses = append(c.losses, [2]int64{m.now, to})
		}
	}
	return 0
}

func (m *model) offer(c *cable, d api.Data) {
	if len(c.port) >= m.p.Config.Queue {
		m.drop(c.from, d, 5)
		return
	}
	c.port = append(c.port, d)
	m.layAsking(c, m.now)
}

func (m *model) atSwitch(w, from int, d api.Data, read bool) {
	why, to, forward := 1, uint32(0), int64(0)
	if read {
		why, to, forward = m.judge(w, from, d)
	}
	if why != 0 {
		m.drop(6+w, d, why)
		return
	}
	for h := range m.p.Config.Hosts {
		if to>>h&1 == 0 {
			continue
		}
		c := m.cable(6+w, h)
		if d.Class != 1 {
			m.offer(c, d)
			continue
		}
		if t, ok := m.dials[6+w].when(forward); ok {
			m.lay(event{t: max(t, m.now), rank: 2, node: 6 + w, what: isForward, cable: c, d: d})
		}
	}
}

// judge is what a switch does with a frame, in chapter 18's words.
func (m *model) judge(w, from int, d api.Data) (why int, to uint32, forward int64) {
	c, local := m.p.Config, m.shown(6+w)
	switch d.Class {
	case 1:
		if d.Link >= len(c.Entries) || c.Entries[d.Link].From != from || c.Entries[d.Link].Size != d.Size {
			return 1, 0, 0
		}
		e := c.Entries[d.Link]
		begin := floorDiv(local, c.Cycle) * c.Cycle
		there := begin + e.Phase + 8*int64(e.Size)
		if local < 0 || local > maxTime || local < there-c.Precision || local > there+c.Delay+c.Precision {
			return 2, 0, 0
		}
		return 0, e.To, there + c.Delay + 2*c.Precision
	case 2:
		if d.Link >= len(c.Links) || c.Links[d.Link].From != from || d.Size > c.Links[d.Link].Size {
			return 1, 0, 0
		}
		k := &m.buckets[w][d.Link]
		if k.set && (m.now < k.at-c.Delay || m.now < k.last) {
			return 4, 0, 0
		}
		if !k.set || m.now > k.at {
			k.at = m.now
		}
		k.at, k.last, k.set = k.at+c.Links[d.Link].Gap, m.now, true
		return 0, c.Links[d.Link].To, 0
	}
	if d.Link >= c.Hosts || d.Link == from {
		return 1, 0, 0
	}
	return 0, 1 << d.Link, 0
}

// atHost is what a host does with a frame, in chapter 19's words; no other frames than such as are for it come to it.
func (m *model) atHost(h int, d api.Data) {
	c, local, key := m.p.Config, m.shown(h), [2]int{h, d.Link}
	switch d.Class {
	case 1:
		e := c.Entries[d.Link]
		k := floorDiv(local, c.Cycle)
		early := k*c.Cycle + e.Phase + 16*int64(e.Size) + c.Delay + c.Precision
		if local < 0 || local > maxTime || local < early || local > early+c.Delay+2*c.Precision {
			m.drop(h, d, 2)
			return
		}
		if last, ok := m.cycles[key]; ok && k <= last {
			m.drop(h, d, 3)
			return
		}
		m.cycles[key] = k
	case 2:
		if last, ok := m.numbers[key]; ok && d.Number <= last {
			m.drop(h, d, 3)
			return
		}
		m.numbers[key] = d.Number
	}
	m.told = append(m.told, api.Tell{Time: m.now, Kind: 1, Node: h, Local: local, Class: d.Class, Link: d.Link, Number: d.Number, Payload: d.Payload})
}

func (m *model) sendEntry(entry int, k int64) {
	e := m.p.Config.Entries[entry]
	if w := m.waiting[entry]; len(w) > 0 {
		m.waiting[entry] = w[1:]
		d := api.Data{Class: 1, Link: entry, Number: int(k % (1 << 31)), Payload: w[0], Size: e.Size}
		m.sent = append(m.sent, api.Tell{Time: m.now, Local: k, Node: e.From, Link: entry, Number: d.Number, Payload: w[0]})
		m.force(m.cable(e.From, 6), d)
		m.force(m.cable(e.From, 7), d)
	}
	m.laySending(entry, k+1)
}

func (m *model) force(c *cable, d api.Data) {
	if c.busy(m.now) {
		if c.over.Class == 1 {
			m.drop(c.from, d, 6)
			return
		}
		m.drop(c.from, c.over, 6)
		if c.loses(c.began) {
			m.lostCut++
		}
		m.events = slices.DeleteFunc(m.events, func(e event) bool {
			return e.what == isArrival && e.cable == c && e.t == c.off+c.delay
		})
	}
	m.send(c, d)
}

func (c *cable) busy(t int64) bool { return c.began <= t && t < c.off }

func (c *cable) loses(t int64) bool {
	return slices.ContainsFunc(c.losses, func(l [2]int64) bool { return l[0] <= t && t < l[1] })
}

func (m *model) send(c *cable, d api.Data) {
	c.began, c.off, c.over = m.now, m.now+8*int64(d.Size), d
	m.layAsking(c, c.off)
	if c.loses(m.now) {
		m.drop(c.from, d, 7)
		return
	}
	m.lay(event{t: c.off + c.delay, rank: 1, node: c.to, what: isArrival, cable: c, d: d})
}

func (m *model) asked(c *cable) {
	if len(c.port) == 0 || c.busy(m.now) {
		return
	}
	next := max(0, slices.IndexFunc(c.port, func(d api.Data) bool { return d.Class == 2 }))
	d, local := c.port[next], m.shown(c.from)
	at, ok := m.wait(c, local, 8*int64(d.Size))
	switch {
	case !ok:
		m.notAgain++
	case at == local:
		c.port = slices.Delete(c.port, next, next+1)
		m.send(c, d)
	default:
		if t, ok := m.dials[c.from].when(at); ok {
			if m.dials[c.from].at(t) != at {
				m.skipped++
			}
			m.layAsking(c, t)
		}
	}
}

// stretches are those of a wire that are reserved in the cycles about a local time.
func (m *model) stretches(c *cable, local int64) [][2]int64 {
	var l [][2]int64
	for _, e := range m.p.Config.Entries {
		from, mine := e.Phase, e.From == c.host
		if c.down {
			from, mine = e.Phase+8*int64(e.Size)+m.p.Config.Delay+2*m.p.Config.Precision, e.To>>c.host&1 == 1
		}
		for k := local/m.p.Config.Cycle - 1; mine && k <= local/m.p.Config.Cycle+4; k++ {
			l = append(l, [2]int64{k*m.p.Config.Cycle + from, k*m.p.Config.Cycle + from + 8*int64(e.Size)})
		}
	}
	return l
}

// wait is the first free time: a wire that isn't free becomes so only where something that is reserved ends.
func (m *model) wait(c *cable, local, length int64) (int64, bool) {
	if local < 0 || local > maxTime || length > m.p.Config.Cycle {
		return 0, false
	}
	taken := m.stretches(c, local)
	first, found := int64(0), false
	for _, try := range append(taken, [2]int64{0, local}) {
		at := try[1]
		if at < local || at > local+2*m.p.Config.Cycle || found && at >= first {
			continue
		}
		if !slices.ContainsFunc(taken, func(s [2]int64) bool { return s[0] < at+length && at < s[1] }) {
			first, found = at, true
		}
	}
	return first, found
}

package flow

import (
	"tocsin/api"
	"tocsin/clock"
	"tocsin/crew"
	"tocsin/plan"
	"tocsin/queue"
	"tocsin/relay"
	"tocsin/station"
)

// The ranks of events that are due at one time.
const (
	actRank = iota
	arrivalRank
	timedRank
	askingRank
)

// numberEnd is the number that no frame reaches: entries count their cycles modulo it.
const numberEnd = 1 << 31

// run is a play on its way.
type run struct {
	c        api.Config
	now      int64
	until    int64
	events   *queue.Queue[func()]
	clocks   [api.MaxHosts + api.Switches]*clock.Clock // by node
	relays   [api.Switches]*relay.Relay
	stations [api.MaxHosts]*station.Station
	lines    map[[2]int]*line       // by the nodes that send and get
	payloads [api.MaxEntry][]string // what waits to be sent, by entry
	rated    [api.MaxLinks]int      // the next numbers, by link
	effort   [api.MaxHosts]int      // the next numbers, by host
	told     []api.Tell
}

// begun is a play at its beginning; of what a play that may be is made of, nothing is refused.
func begun(p api.Play) *run {
	r := &run{c: p.Config, until: p.Until, events: queue.New[func()](api.MaxItems), lines: map[[2]int]*line{}}
	for i, d := range p.Dials {
		node := i
		if i >= r.c.Hosts {
			node = switchNode(i - r.c.Hosts)
		}
		rate, _ := clock.Drift(d.Rate)
		r.clocks[node], _ = clock.New(0, d.Base, rate)
	}
	for number := range r.relays {
		r.relays[number], _ = relay.New(r.c)
	}
	for host := range r.c.Hosts {
		r.stations[host], _ = station.New(r.c, host)
		for number := range api.Switches {
			r.connect(host, number)
		}
	}
	for _, a := range p.Acts {
		r.layAct(a)
	}
	for entry, e := range r.c.Entries {
		// A clock that shows less than 0 comes to the cycle 0 yet.
		first, _ := plan.Send(r.c, entry, max(r.shows(e.From), 0))
		r.laySending(entry, first)
	}
	return r
}

// switchNode is the node of a switch.
func switchNode(number int) int { return api.MaxHosts + number }

// shows is what a node's clock shows now.
func (r *run) shows(node int) int64 {
	// All clocks are marked at 0, so each tells every time of a run.
	local, _ := r.clocks[node].Now(r.now)
	return local
}

// lay lays an event down, if it isn't behind the end.
func (r *run) lay(t int64, rank int64, node int, do func()) {
	if t > r.until {
		return
	}
	// The queue has room: what goes over lines comes of at most MaxActs acts, each of which becomes at most two frames to
	// switches and ten to hosts, and each of these has at most one event of its own and two askings at one time.
	r.events.Push(t, rank, int64(node), do)
}

// when is when a node's clock shows a local time, or now, if it has done so; false, where that can't be told.
func (r *run) when(node int, local int64) (int64, bool) {
	t, e := r.clocks[node].When(local)
	return max(t, r.now), e == api.OK
}

// layTimed lays down what is done with a timed frame when a node's clock shows a local time.
func (r *run) layTimed(node int, local int64, do func()) {
	if t, ok := r.when(node, local); ok {
		r.lay(t, timedRank, node, do)
	}
}

// laySending lays down that an entry is sent at a local time of its host, and a cycle later again.
func (r *run) laySending(entry int, local int64) {
	r.layTimed(r.c.Entries[entry].From, local, func() {
		r.sendEntry(entry, local/r.c.Cycle)
		r.laySending(entry, local+r.c.Cycle)
	})
}

// sendEntry sends an entry's next payload to both switches.
func (r *run) sendEntry(entry int, cycle int64) {
	waiting := r.payloads[entry]
	if len(waiting) == 0 {
		return
	}
	r.payloads[entry] = waiting[1:]
	e := r.c.Entries[entry]
	d := api.Data{Class: api.Timed, Link: entry, Number: int(cycle % numberEnd), Payload: waiting[0], Size: e.Size}
	for number := range api.Switches {
		r.force(r.up(e.From, number), d)
	}
}

// reachSwitch is that bytes come in at a switch.
func (r *run) reachSwitch(number, from int, b []byte) {
	node := switchNode(number)
	v := r.relays[number].Judge(r.now, r.shows(node), from, b)
	if v.Why != 0 {
		r.drop(node, v.Data, v.Why)
		return
	}
	for _, host := range crew.Members(v.To) {
		l := r.down(host, number)
		if v.Data.Class == api.Timed {
			r.layTimed(node, v.At, func() { r.force(l, v.Data) })
		} else {
			r.offer(l, v.Data)
		}
	}
}

// reachHost is that bytes come in at a host.
func (r *run) reachHost(host int, b []byte) {
	local := r.shows(host)
	g := r.stations[host].Judge(local, b)
	if g.Why != 0 {
		r.drop(host, g.Data, g.Why)
		return
	}
	r.tell(api.Tell{Kind: api.TellGot, Node: host, Local: local, Class: g.Data.Class, Link: g.Data.Link, Number: g.Data.Number, Payload: g.Data.Payload})
}

// drop tells that a frame was dropped at a node.
func (r *run) drop(node int, d api.Data, why int) {
	r.tell(api.Tell{Kind: api.TellDrop, Node: node, Class: d.Class, Link: d.Link, Number: d.Number, Why: why})
}

// tell tells of something that it is now.
func (r *run) tell(t api.Tell) {
	t.Time = r.now
	r.told = append(r.told, t)
}

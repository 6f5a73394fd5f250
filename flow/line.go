package flow

import (
	"tocsin/api"
	"tocsin/frame"
	"tocsin/plan"
	"tocsin/port"
	"tocsin/wire"
)

// line is a wire one way between a host and a switch, with the port in front of it.
type line struct {
	from, to int // nodes
	host     int
	isDown   bool // to the host
	wire     *wire.Wire
	port     *port.Port
	reach    func(b []byte)     // what it is that bytes come in at the other end
	last     *flight            // what was sent last
	loses    int64              // what begins ahead of this time is lost
	askings  map[int64]struct{} // the times for which it is asked what can go
}

// flight is a frame that was sent over a line.
type flight struct {
	d   api.Data
	cut bool
}

// connect lays both lines between a host and a switch.
func (r *run) connect(host, number int) {
	r.addLine(line{from: host, to: switchNode(number), host: host, reach: func(b []byte) { r.reachSwitch(number, host, b) }}, number)
	r.addLine(line{from: switchNode(number), to: host, host: host, isDown: true, reach: func(b []byte) { r.reachHost(host, b) }}, number)
}

// addLine adds a line between its host and a switch.
func (r *run) addLine(l line, number int) {
	l.wire, _ = wire.New(r.c.Delays[l.host][number])
	l.port, _ = port.New(r.c.Queue)
	l.askings = map[int64]struct{}{}
	r.lines[[2]int{l.from, l.to}] = &l
}

// up is the line from a host to a switch.
func (r *run) up(host, number int) *line { return r.lines[[2]int{host, switchNode(number)}] }

// down is the line from a switch to a host.
func (r *run) down(host, number int) *line { return r.lines[[2]int{switchNode(number), host}] }

// busy says whether a frame goes over the line.
func (l *line) busy(t int64) bool {
	free, _ := l.wire.Free(t)
	return free > t
}

// offer lets a frame wait for its line.
func (r *run) offer(l *line, d api.Data) {
	if l.port.Offer(d) != api.OK {
		r.drop(l.from, d, api.WhyFull)
		return
	}
	r.ask(l, r.now)
}

// ask lays down that at a time it is asked what can go over a line.
func (r *run) ask(l *line, t int64) {
	if _, there := l.askings[t]; there {
		return
	}
	l.askings[t] = struct{}{}
	r.lay(t, askingRank, l.from, func() {
		delete(l.askings, t)
		r.next(l)
	})
}

// next lets the next frame go, if it can.
func (r *run) next(l *line) {
	d, waits := l.port.Peek()
	if !waits || l.busy(r.now) {
		return
	}
	local := r.shows(l.from)
	at, ok := plan.Wait(r.c, l.host, l.isDown, local, frame.Time(d.Size))
	switch {
	case !ok:
		return
	case at > local:
		if t, ok := r.when(l.from, at); ok {
			r.ask(l, t)
		}
	default:
		l.port.Take()
		r.send(l, d)
	}
}

// force sends a timed frame, and cuts what goes over the line, if that isn't timed itself.
func (r *run) force(l *line, d api.Data) {
	if l.busy(r.now) {
		if l.last.d.Class == api.Timed {
			r.drop(l.from, d, api.WhyCut)
			return
		}
		l.wire.Cut(r.now)
		l.last.cut = true
		r.drop(l.from, l.last.d, api.WhyCut)
	}
	r.send(l, d)
}

// send sends a frame over a line that isn't busy.
func (r *run) send(l *line, d api.Data) {
	// The frame is right, and the time one of a run, so neither is refused.
	b, _ := frame.Data(d)
	at, _ := l.wire.Send(r.now, d.Size)
	sent := &flight{d: d}
	l.last = sent
	r.ask(l, r.now+frame.Time(d.Size))
	if r.now < l.loses {
		r.drop(l.from, d, api.WhyLoss)
		return
	}
	r.lay(at, arrivalRank, l.to, func() {
		if !sent.cut {
			l.reach(b)
		}
	})
}

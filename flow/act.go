package flow

import (
	"tocsin/api"
	"tocsin/frame"
)

// layAct lays an act down, and that it is told, if it is refused.
func (r *run) layAct(a api.Act) {
	if a.Time < 0 {
		return
	}
	r.lay(a.Time, actRank, 0, func() {
		if why := r.act(a); why != 0 {
			r.drop(a.Node, api.Data{}, why)
		}
	})
}

// act does an act, or tells why not.
func (r *run) act(a api.Act) (why int) {
	if a.Node < 0 || a.Node >= r.c.Hosts {
		return api.WhyForm
	}
	switch a.Kind {
	case api.ActSend:
		return r.actSend(a)
	case api.ActRated:
		return r.actRated(a)
	case api.ActEffort:
		return r.actEffort(a)
	case api.ActRaw:
		return r.actRaw(a)
	case api.ActLoss:
		return r.actLoss(a)
	}
	return api.WhyForm
}

// actSend lays a payload behind those of its entry.
func (r *run) actSend(a api.Act) (why int) {
	if a.Arg < 0 || a.Arg >= len(r.c.Entries) {
		return api.WhyForm
	}
	e := r.c.Entries[a.Arg]
	if e.From != a.Node || !right(api.Data{Class: api.Timed, Link: a.Arg, Payload: a.Payload, Size: e.Size}) {
		return api.WhyForm
	}
	if len(r.payloads[a.Arg]) >= r.c.Queue {
		return api.WhyFull
	}
	r.payloads[a.Arg] = append(r.payloads[a.Arg], a.Payload)
	return 0
}

// actRated offers a link's next frame to both switches.
func (r *run) actRated(a api.Act) (why int) {
	if a.Arg < 0 || a.Arg >= len(r.c.Links) {
		return api.WhyForm
	}
	link := r.c.Links[a.Arg]
	d := api.Data{Class: api.Rated, Link: a.Arg, Number: r.rated[a.Arg], Payload: a.Payload, Size: link.Size}
	if link.From != a.Node || !right(d) {
		return api.WhyForm
	}
	r.rated[a.Arg]++
	for number := range api.Switches {
		r.offer(r.up(a.Node, number), d)
	}
	return 0
}

// actEffort offers a host's next frame to switch 0.
func (r *run) actEffort(a api.Act) (why int) {
	d := api.Data{Class: api.Effort, Link: a.Arg, Number: r.effort[a.Node], Payload: a.Payload, Size: a.Size}
	if !right(d) {
		return api.WhyForm
	}
	r.effort[a.Node]++
	r.offer(r.up(a.Node, 0), d)
	return 0
}

// actRaw lets bytes come in at a switch.
func (r *run) actRaw(a api.Act) (why int) {
	if !isSwitch(a.Arg) {
		return api.WhyForm
	}
	r.reachSwitch(a.Arg, a.Node, []byte(a.Payload))
	return 0
}

// actLoss lets both lines between a host and a switch lose what begins from now on.
func (r *run) actLoss(a api.Act) (why int) {
	if !isSwitch(a.Arg) || a.Size < 0 {
		return api.WhyForm
	}
	// No run is as long as MaxTime, and a sum with more could leave 64 bits.
	end := r.now + min(int64(a.Size), api.MaxTime)
	for _, l := range []*line{r.up(a.Node, a.Arg), r.down(a.Node, a.Arg)} {
		// A loss that began earlier and lasts longer goes on.
		l.loses = max(l.loses, end)
	}
	return 0
}

// right says whether a frame is right (chapter 6).
func right(d api.Data) bool {
	_, e := frame.Data(d)
	return e == api.OK
}

func isSwitch(number int) bool { return number >= 0 && number < api.Switches }

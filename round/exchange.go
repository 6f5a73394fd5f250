package round

import (
	"tocsin/align"
	"tocsin/api"
	"tocsin/clock"
	"tocsin/comp"
	"tocsin/crew"
	"tocsin/perm"
)

// exchange is the exchange of one cycle's control frames.
type exchange struct {
	c     api.Config
	cycle int64
	lost  Loss
	// results are what each switch sends to all hosts; one of no host isn't sent.
	results [api.Switches]comp.Result
}

// compress lets both switches collect what the hosts sent.
func (x *exchange) compress(sent []int64) {
	hosts := inOrder(sent)
	for number := range x.results {
		x.results[number] = x.collect(number, hosts, sent)
	}
}

// collect is what a switch makes of the frames of hosts that send in that order.
func (x *exchange) collect(number int, hosts []int, sent []int64) comp.Result {
	// A configuration that may be has a window that may be.
	collector, _ := comp.New(x.c.Window)
	var end int64
	for _, host := range hosts {
		if crew.Has(x.lost.Up[number], host) {
			continue
		}
		f := api.Control{Kind: api.Integrate, From: host, Cycle: x.cycle, Clear: x.c.Delays[host][number]}
		// One that is refused is let go, and nothing is closed in between: so what comes late begins no collection.
		if until, e := collector.Add(sent[host]+x.c.Delay, f); e == api.OK {
			end = until
		}
	}
	result, _ := collector.Close(end)
	return result
}

// crews are who is in each switch's result.
func (x *exchange) crews() [api.Switches]uint32 {
	var l [api.Switches]uint32
	for number, r := range x.results {
		l[number] = r.Crew
	}
	return l
}

// correct lets a host hear the switches and set its clock, and tells by how much, and how many it heard.
func (x *exchange) correct(host int, k *clock.Clock) (by int64, heard int) {
	// The round was asked of a configuration that may be.
	ear, _ := align.New(x.c)
	for number, r := range x.results {
		if r.Crew == 0 || crew.Has(x.lost.Down[number], host) {
			continue
		}
		if local, ok := x.permanent(host, number, k); ok {
			// One that is refused isn't heard; Close tells how many were.
			ear.Hear(x.cycle, local, comp.Frame(r, api.MaxHosts+number))
		}
	}
	by, _, heard = ear.Close()
	if heard > 0 {
		setOn(k, ear.Expected(x.cycle)+ear.Accept()+1, by)
	}
	return by, heard
}

// permanent is what a host's clock shows when a switch's frame is permanent there, if it ever is.
func (x *exchange) permanent(host, number int, k *clock.Clock) (int64, bool) {
	delay := x.c.Delays[host][number]
	due, e := perm.Due(k, x.results[number].Point+x.c.Window+delay, delay, x.c.Delay)
	if e != api.OK {
		return 0, false
	}
	local, e := k.Now(due)
	return local, e == api.OK
}

// setOn sets a clock on as soon as it shows a local time; one that never does stays as it is.
func setOn(k *clock.Clock, local, by int64) {
	t, e := k.When(local)
	if e != api.OK {
		return
	}
	// The clock shows local then, or one more, which with by is far from the bounds of what may be set.
	shown, _ := k.Now(t)
	k.Set(t, shown+by)
}

package conf

import (
	"tocsin/api"
	"tocsin/crew"
)

// Family is a configuration that may be.
func Family(hosts, entries int) api.Config {
	hosts = min(max(hosts, 1), api.MaxHosts)
	return api.Config{
		Hosts:     hosts,
		Cycle:     2000000,
		Delay:     2000,
		Window:    1000,
		Precision: 500,
		Delays:    familyDelays(hosts),
		Entries:   familyEntries(hosts, min(max(entries, 0), api.MaxEntry)),
		Queue:     8,
	}
}

// familyDelays are the delays of a family's links.
func familyDelays(hosts int) [][]int64 {
	delays := make([][]int64, hosts)
	for host := range int64(hosts) {
		for to := range int64(api.Switches) {
			delays[host] = append(delays[host], 100*(host+1)+50*to)
		}
	}
	return delays
}

// familyEntries are a family's entries: the hosts send in turn, each to all others.
func familyEntries(hosts, entries int) []api.Entry {
	if hosts == 1 {
		return nil // a host alone has nobody to send to
	}
	l := make([]api.Entry, entries)
	for i := range l {
		from := i % hosts
		l[i] = api.Entry{From: from, To: others(hosts, from), Phase: 10000 + 50000*int64(i), Size: api.MinSize + i}
	}
	return l
}

// others are all hosts but one.
func others(hosts, but int) uint32 {
	var l []int
	for host := range hosts {
		if host != but {
			l = append(l, host)
		}
	}
	return crew.Of(l)
}

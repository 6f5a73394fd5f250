package mach

import (
	"math"
	"math/rand"
	"slices"
	"testing"
)

const (
	hosts = 6
	// low are the bits that mean a host.
	low = 63
)

// highs are bits beyond the hosts'.
var highs = []uint32{0, 1 << 6, 1 << 31, 0xFFFFFFC0}

// noHosts are numbers of no host: just beyond the edges, and those whose last bits look like one's.
var noHosts = []int{math.MinInt, math.MinInt32, -256, -2, -1, 6, 7, 8, 64, 256, 1 << 32, 1<<32 + 2, math.MaxInt - 1, math.MaxInt}

// noKinds are kinds of nothing that happens.
var noKinds = []int{math.MinInt, -4, -1, 0, 5, 6, 257, 1<<32 + 1, 1<<32 + 3, math.MaxInt}

// members are a crew's hosts as chapter 7 words them, rising.
func members(c uint32) []int {
	var l []int
	for host := range hosts {
		if c%2 == 1 {
			l = append(l, host)
		}
		c /= 2
	}
	return l
}

// wantStronger is what the chapter says of two crews.
func wantStronger(a, b uint32) bool {
	x, y := members(a), members(b)
	if len(x) == len(y) && len(x) > 0 {
		return x[0] < y[0]
	}
	return len(x) > len(y)
}

// row is a row of the chapter's table.
type row struct {
	states []int
	kind   int
	holds  func(host int, m Mach, e Event) bool
	behind func(host int, m Mach, e Event) Mach
	done   int
}

func always(host int, m Mach, e Event) bool { return true }

func hasHost(host int, m Mach, e Event) bool { return len(members(e.Crew)) > 0 }

func to(state int) func(int, Mach, Event) Mach {
	return func(int, Mach, Event) Mach { return Mach{State: state} }
}

func toIts(host int, m Mach, e Event) Mach { return Mach{State: 3, Crew: e.Crew & low} }

// table is the chapter's, row by row.
func table() []row {
	return []row{
		{[]int{1}, 1, always, to(2), 1},
		{[]int{2, 3}, 2, always, to(1), 5},
		{[]int{2}, 4, hasHost, toIts, 3},
		{[]int{2}, 3,
			func(host int, m Mach, e Event) bool { return m.Waited < 1+host },
			func(host int, m Mach, e Event) Mach { return Mach{State: 2, Waited: m.Waited + 1} }, 0},
		{[]int{2}, 3,
			func(host int, m Mach, e Event) bool { return m.Waited >= 1+host },
			func(host int, m Mach, e Event) Mach { return Mach{State: 3, Crew: 1 << host} }, 2},
		{[]int{3}, 3, hasHost, toIts, 0},
		{[]int{3}, 3,
			func(host int, m Mach, e Event) bool { return !hasHost(host, m, e) && m.Misses == 0 },
			func(host int, m Mach, e Event) Mach { return Mach{State: 3, Crew: m.Crew, Misses: 1} }, 0},
		{[]int{3}, 3,
			func(host int, m Mach, e Event) bool { return !hasHost(host, m, e) && m.Misses != 0 },
			to(2), 4},
		{[]int{3}, 4,
			func(host int, m Mach, e Event) bool { return wantStronger(e.Crew, m.Crew) },
			to(2), 4},
	}
}

// wantStep is the machine that may be behind what happens, by the table.
func wantStep(t *testing.T, rows []row, host int, m Mach, e Event) (Mach, int) {
	t.Helper()
	behind, done, n := m, 0, 0
	for _, r := range rows {
		if slices.Contains(r.states, m.State) && r.kind == e.Kind && r.holds(host, m, e) {
			behind, done = r.behind(host, m, e), r.done
			n++
		}
	}
	if n > 1 {
		t.Fatalf("%d rows hold for %d, %v, %v", n, host, m, e)
	}
	return behind, done
}

// machines are all that may be of a host.
func machines(host int) []Mach {
	l := []Mach{{State: 1}}
	for waited := 0; waited <= host+1; waited++ {
		l = append(l, Mach{State: 2, Waited: waited})
	}
	for team := uint32(1); team <= low; team++ {
		l = append(l, Mach{State: 3, Crew: team}, Mach{State: 3, Crew: team, Misses: 1})
	}
	return l
}

// events are of each kind that happens, and of some that don't, with each crew, without and with bits beyond the hosts'.
func events() []Event {
	var l []Event
	for _, kind := range slices.Concat([]int{1, 2, 3, 4}, noKinds) {
		for team := range uint32(low + 1) {
			for _, high := range highs {
				l = append(l, Event{kind, team | high})
			}
		}
	}
	return l
}

func wantThat(t *testing.T, host int, m Mach, e Event, want Mach, wantDone int) {
	t.Helper()
	if got, done := Step(host, m, e); got != want || done != wantDone {
		t.Fatalf("Step(%d, %v, %v) = %v, %d, want %v, %d", host, m, e, got, done, want, wantDone)
	}
}

func TestConstantsP131(t *testing.T) {
	if Off != 1 || Listen != 2 || Synced != 3 {
		t.Error("states", Off, Listen, Synced)
	}
	if Power != 1 || Fail != 2 || Cycle != 3 || Foreign != 4 {
		t.Error("events", Power, Fail, Cycle, Foreign)
	}
	if Nothing != 0 || Begin != 1 || Start != 2 || Join != 3 || Leave != 4 || Stop != 5 {
		t.Error("done", Nothing, Begin, Start, Join, Leave, Stop)
	}
}

func TestExamplesP131(t *testing.T) {
	wantThat(t, 0, Mach{State: Off}, Event{Kind: Power}, Mach{State: Listen}, Begin)
	wantThat(t, 0, Mach{State: Listen, Waited: 1}, Event{Kind: Cycle}, Mach{State: Synced, Crew: 1}, Start)
	wantThat(t, 2, Mach{State: Synced, Crew: 4}, Event{Foreign, 3}, Mach{State: Listen}, Leave)
	wantThat(t, 2, Mach{State: Synced, Crew: 4}, Event{Foreign, 8}, Mach{State: Synced, Crew: 4}, Nothing)
}

// The rows' edges, written out.
func TestRowsP131(t *testing.T) {
	for _, c := range []struct {
		host int
		m    Mach
		e    Event
		want Mach
		done int
	}{
		{3, Mach{State: 1}, Event{1, 9}, Mach{State: 2}, 1},
		{3, Mach{State: 1}, Event{2, 9}, Mach{State: 1}, 0},
		{3, Mach{State: 1}, Event{3, 9}, Mach{State: 1}, 0},
		{3, Mach{State: 1}, Event{4, 9}, Mach{State: 1}, 0},
		{3, Mach{State: 2, Waited: 2}, Event{1, 9}, Mach{State: 2, Waited: 2}, 0},
		{3, Mach{State: 2, Waited: 2}, Event{2, 9}, Mach{State: 1}, 5},
		{3, Mach{State: 2, Waited: 3}, Event{3, 0}, Mach{State: 2, Waited: 4}, 0},
		{3, Mach{State: 2, Waited: 4}, Event{3, 0}, Mach{State: 3, Crew: 8}, 2},
		// A host that listens reckons its cycles, whatever it heard in them.
		{3, Mach{State: 2, Waited: 3}, Event{3, 5}, Mach{State: 2, Waited: 4}, 0},
		{3, Mach{State: 2, Waited: 4}, Event{3, 5}, Mach{State: 3, Crew: 8}, 2},
		{3, Mach{State: 2, Waited: 4}, Event{4, 5}, Mach{State: 3, Crew: 5}, 3},
		{3, Mach{State: 2, Waited: 4}, Event{4, 1<<31 | 5}, Mach{State: 3, Crew: 5}, 3},
		{3, Mach{State: 2, Waited: 4}, Event{4, 0}, Mach{State: 2, Waited: 4}, 0},
		{3, Mach{State: 2, Waited: 4}, Event{4, 64}, Mach{State: 2, Waited: 4}, 0},
		{3, Mach{State: 3, Crew: 9, Misses: 1}, Event{1, 63}, Mach{State: 3, Crew: 9, Misses: 1}, 0},
		{3, Mach{State: 3, Crew: 9, Misses: 1}, Event{2, 63}, Mach{State: 1}, 5},
		{3, Mach{State: 3, Crew: 9}, Event{3, 2}, Mach{State: 3, Crew: 2}, 0},
		{3, Mach{State: 3, Crew: 9, Misses: 1}, Event{3, 2}, Mach{State: 3, Crew: 2}, 0},
		{3, Mach{State: 3, Crew: 9, Misses: 1}, Event{3, 130}, Mach{State: 3, Crew: 2}, 0},
		{3, Mach{State: 3, Crew: 9}, Event{3, 0}, Mach{State: 3, Crew: 9, Misses: 1}, 0},
		{3, Mach{State: 3, Crew: 9}, Event{3, 64}, Mach{State: 3, Crew: 9, Misses: 1}, 0},
		{3, Mach{State: 3, Crew: 9, Misses: 1}, Event{3, 0}, Mach{State: 2}, 4},
		{3, Mach{State: 3, Crew: 9, Misses: 1}, Event{3, 1 << 31}, Mach{State: 2}, 4},
		{3, Mach{State: 3, Crew: 10}, Event{4, 7}, Mach{State: 2}, 4},
		{3, Mach{State: 3, Crew: 10, Misses: 1}, Event{4, 9}, Mach{State: 2}, 4},
		{3, Mach{State: 3, Crew: 10, Misses: 1}, Event{4, 10}, Mach{State: 3, Crew: 10, Misses: 1}, 0},
		{3, Mach{State: 3, Crew: 10}, Event{4, 6}, Mach{State: 3, Crew: 10}, 0},
		{3, Mach{State: 3, Crew: 10}, Event{4, 34}, Mach{State: 3, Crew: 10}, 0},
		{3, Mach{State: 3, Crew: 10}, Event{4, 1}, Mach{State: 3, Crew: 10}, 0},
		{3, Mach{State: 3, Crew: 10}, Event{4, 0}, Mach{State: 3, Crew: 10}, 0},
		{3, Mach{State: 3, Crew: 10}, Event{4, 1 | 15<<28}, Mach{State: 3, Crew: 10}, 0},
	} {
		wantThat(t, c.host, c.m, c.e, c.want, c.done)
	}
}

// Each machine that may be, behind each thing that happens; and what may be leads to what may be.
func TestStepP131P134(t *testing.T) {
	rows, all := table(), events()
	for host := range hosts {
		for _, m := range machines(host) {
			for _, e := range all {
				want, done := wantStep(t, rows, host, m, e)
				wantThat(t, host, m, e, want, done)
				if !May(host, want) {
					t.Fatalf("%v behind %v, %v of host %d may not be", want, m, e, host)
				}
			}
		}
	}
}

// Just what may be is led to from a machine that is off.
func TestLedToP134(t *testing.T) {
	for host := range hosts {
		led := map[Mach]int{{State: Off}: 1}
		for work := []Mach{{State: Off}}; len(work) > 0; work = work[1:] {
			for _, e := range events() {
				m, _ := Step(host, work[0], e)
				if led[m] == 0 {
					led[m] = 1
					work = append(work, m)
				}
			}
		}
		may := machines(host)
		for _, m := range may {
			if led[m] == 0 {
				t.Errorf("nothing leads host %d to %v", host, m)
			}
		}
		if len(led) != len(may) {
			t.Errorf("host %d is led to %d machines, want %d", host, len(led), len(may))
		}
	}
}

// noMachines may not be, of any host.
func noMachines() []Mach {
	return []Mach{
		{}, {State: -1}, {State: 4}, {State: 257}, {State: 1<<32 + 1}, {State: math.MinInt}, {State: math.MaxInt},
		{Crew: 1}, {State: 4, Crew: 1}, {Waited: 1}, {State: 4, Waited: 1},
		{State: 1, Crew: 1}, {State: 1, Crew: 64}, {State: 1, Misses: 1}, {State: 1, Waited: 1}, {State: 1, Waited: -1}, {State: 1, Misses: math.MinInt},
		{State: 2, Crew: 1}, {State: 2, Crew: 1 << 31}, {State: 2, Misses: 1}, {State: 2, Misses: -1}, {State: 2, Waited: 1, Misses: 1}, {State: 2, Waited: 1, Crew: 4},
		{State: 2, Waited: -1}, {State: 2, Waited: 8}, {State: 2, Waited: math.MinInt}, {State: 2, Waited: math.MaxInt}, {State: 2, Waited: 1 << 32},
		{State: 3}, {State: 3, Misses: 1}, {State: 3, Crew: 64}, {State: 3, Crew: 1 << 31}, {State: 3, Crew: math.MaxUint32}, {State: 3, Crew: 65}, {State: 3, Crew: 127, Misses: 1},
		{State: 3, Crew: 4, Misses: 2}, {State: 3, Crew: 4, Misses: -1}, {State: 3, Crew: 4, Misses: math.MaxInt}, {State: 3, Crew: 4, Misses: math.MinInt}, {State: 3, Crew: 4, Misses: 1<<32 + 1},
		{State: 3, Crew: 4, Waited: 1}, {State: 3, Crew: 4, Waited: -1}, {State: 3, Crew: 4, Misses: 1, Waited: 1},
	}
}

func TestMayP131(t *testing.T) {
	for host := range hosts {
		may := machines(host)
		for _, m := range may {
			if !May(host, m) {
				t.Errorf("May(%d, %v)", host, m)
			}
		}
		for state := -1; state <= 5; state++ {
			for team := range uint32(3 * (low + 1)) {
				for misses := -1; misses <= 3; misses++ {
					for waited := -1; waited <= 9; waited++ {
						m := Mach{state, team, misses, waited}
						if want := slices.Contains(may, m); May(host, m) != want {
							t.Fatalf("May(%d, %v) = %v", host, m, !want)
						}
					}
				}
			}
		}
		for _, m := range noMachines() {
			if May(host, m) {
				t.Errorf("May(%d, %v)", host, m)
			}
		}
	}
	for _, host := range noHosts {
		for _, m := range slices.Concat(machines(5), noMachines()) {
			if May(host, m) {
				t.Errorf("May(%d, %v)", host, m)
			}
		}
	}
}

// What may not be stays as it is, and nothing is done.
func TestWhatMayNotBeStaysP131(t *testing.T) {
	all := events()
	for host := range hosts {
		no := noMachines()
		for waited := host + 2; waited < 9; waited++ {
			no = append(no, Mach{State: Listen, Waited: waited})
		}
		for _, m := range no {
			for _, e := range all {
				wantThat(t, host, m, e, m, Nothing)
			}
		}
	}
	for _, host := range noHosts {
		for _, m := range slices.Concat(machines(5), noMachines()) {
			for kind := range 6 {
				for _, team := range []uint32{0, 1, 32, 63, 64, math.MaxUint32} {
					wantThat(t, host, m, Event{kind, team}, m, Nothing)
				}
			}
		}
	}
}

func TestStrongerP131(t *testing.T) {
	for a := range uint32(low + 1) {
		for b := range uint32(low + 1) {
			want := wantStronger(a, b)
			for _, x := range highs {
				for _, y := range highs {
					if Stronger(a|x, b|y) != want {
						t.Fatalf("Stronger(%#x, %#x) = %v", a|x, b|y, !want)
					}
				}
			}
			if want && Stronger(b, a) {
				t.Errorf("%d and %d are stronger than one another", a, b)
			}
		}
	}
	for _, c := range []struct {
		a, b uint32
		want bool
	}{
		{0, 0, false}, {0, 1, false}, {32, 0, true}, {3, 4, true}, {4, 3, false}, {4, 4, false}, {1, 2, true}, {2, 1, false},
		{5, 6, true}, {3, 5, false}, {5, 3, false}, {7, 35, false}, {48, 1, true}, {64, 0, false}, {1 << 31, 1, false}, {192, 1, false}, {65, 2, true}, {129, 1, false},
	} {
		if Stronger(c.a, c.b) != c.want {
			t.Errorf("Stronger(%d, %d) = %v", c.a, c.b, !c.want)
		}
	}
}

// wantRun is what Run tells of a host.
func wantRun(t *testing.T, host int, l []Event, want []Mach, wantDone []int) {
	t.Helper()
	if got, done := Run(host, l); !slices.Equal(got, want) || !slices.Equal(done, wantDone) {
		t.Fatalf("Run(%d, %v) = %v, %v, want %v, %v", host, l, got, done, want, wantDone)
	}
}

// ranEvents are of random kinds, most of them those that change much.
func ranEvents(r *rand.Rand, n int) []Event {
	kinds := []int{1, 1, 3, 3, 3, 3, 3, 3, 4, 4, 2, 0, 5, -3}
	crews := []uint32{0, 0, 0, 64, math.MaxUint32}
	l := make([]Event, n)
	for i := range l {
		l[i] = Event{kinds[r.Intn(len(kinds))], uint32(r.Intn(128))}
		if r.Intn(2) == 0 {
			l[i].Crew = crews[r.Intn(len(crews))]
		}
	}
	return l
}

func TestRunP131(t *testing.T) {
	rows, r := table(), rand.New(rand.NewSource(131))
	for range 20000 {
		host, l := r.Intn(hosts), ranEvents(r, r.Intn(40))
		var want []Mach
		var done []int
		m := Mach{State: 1}
		for _, e := range l {
			behind, d := wantStep(t, rows, host, m, e)
			m = behind
			want, done = append(want, m), append(done, d)
		}
		wantRun(t, host, l, want, done)
	}
}

func TestRunEdgesP131(t *testing.T) {
	for host := range hosts {
		wantRun(t, host, nil, nil, nil)
		wantRun(t, host, []Event{}, nil, nil)
		wantRun(t, host, []Event{{}, {Kind: 9}, {Cycle, 7}, {Foreign, 7}, {Kind: Fail}}, slices.Repeat([]Mach{{State: Off}}, 5), make([]int, 5))
	}
	for _, host := range noHosts {
		wantRun(t, host, nil, nil, nil)
		wantRun(t, host, []Event{{Kind: Power}, {Kind: Cycle}, {Foreign, 63}}, nil, nil)
	}
	wantRun(t, 1, []Event{{Kind: Power}, {Kind: Cycle}, {Kind: Cycle}, {Kind: Cycle}, {Cycle, 6}, {Foreign, 5}, {Foreign, 69}, {Kind: Fail}},
		[]Mach{{State: Listen}, {State: Listen, Waited: 1}, {State: Listen, Waited: 2}, {State: Synced, Crew: 2}, {State: Synced, Crew: 6}, {State: Listen}, {State: Synced, Crew: 5}, {State: Off}},
		[]int{Begin, Nothing, Nothing, Start, Nothing, Leave, Join, Stop})
}

func TestRunManyP131(t *testing.T) {
	l := slices.Repeat([]Event{{Kind: Cycle}}, 1<<20)
	l[0] = Event{Kind: Power}
	got, done := Run(0, l)
	// Alone, host 0 starts after two cycles, and leaves after two more.
	behind := []Mach{{State: Listen, Waited: 1}, {State: Synced, Crew: 1}, {State: Synced, Crew: 1, Misses: 1}, {State: Listen}}
	for i := 1; i < len(l); i++ {
		if want, d := behind[(i-1)%4], []int{Nothing, Start, Nothing, Leave}[(i-1)%4]; got[i] != want || done[i] != d {
			t.Fatalf("behind event %d: %v, %d, want %v, %d", i, got[i], done[i], want, d)
		}
	}
}

// silent are cycles in which nothing is heard, with things between them that change nothing in a host that listens.
func silent(r *rand.Rand, cycles int) []Event {
	idle := []Event{{Kind: Power}, {Kind: Foreign}, {Foreign, 1 << 6}, {}, {Kind: 7}}
	var l []Event
	for range cycles {
		for range r.Intn(3) {
			l = append(l, idle[r.Intn(len(idle))])
		}
		l = append(l, Event{Kind: Cycle})
	}
	return l
}

func TestAloneP132(t *testing.T) {
	r := rand.New(rand.NewSource(132))
	for host := range hosts {
		for range 200 {
			l := append([]Event{{Kind: Power}}, silent(r, host+2)...)
			got, done := Run(host, l)
			last := len(l) - 1
			if want := (Mach{State: Synced, Crew: 1 << host}); got[last] != want || done[last] != Start {
				t.Fatalf("host %d after %d cycles: %v, %d", host, host+2, got[last], done[last])
			}
			for _, m := range got[:last] {
				if m.State != Listen {
					t.Fatalf("host %d ahead of %d cycles: %v", host, host+2, m)
				}
			}
		}
	}
}

// A host that fell out of a crew, or failed, waits as long again.
func TestAloneAgainP132(t *testing.T) {
	for host := range hosts {
		for _, out := range [][]Event{{{Cycle, 0}, {Cycle, 0}}, {{Foreign, 63}}, {{Kind: Fail}, {Kind: Power}}} {
			l := slices.Concat([]Event{{Kind: Power}, {Kind: Cycle}, {Foreign, 4}}, out, slices.Repeat([]Event{{Kind: Cycle}}, host+2))
			got, done := Run(host, l)
			last := len(l) - 1
			if got[last] != (Mach{State: Synced, Crew: 1 << host}) || done[last] != Start || got[last-1].State != Listen {
				t.Errorf("host %d by %v: %v", host, out, got)
			}
		}
	}
}

func TestNoTwoAtOnceP132(t *testing.T) {
	l := append([]Event{{Kind: Power}}, slices.Repeat([]Event{{Kind: Cycle}}, hosts+1)...)
	at := map[int]int{}
	for host := range hosts {
		_, done := Run(host, l)
		at[slices.Index(done, Start)]++
	}
	if at[-1] != 0 || len(at) != hosts {
		t.Errorf("hosts start at %v", at)
	}
}

// wantStays steps a synchronized host on, and wants it to be so still, with a crew.
func wantStays(t *testing.T, host int, m Mach, e Event, team uint32) Mach {
	t.Helper()
	behind, done := Step(host, m, e)
	if behind.State != Synced || behind.Crew != team || done != Nothing {
		t.Fatalf("Step(%d, %v, %v) = %v, %d, want crew %d still", host, m, e, behind, done, team)
	}
	return behind
}

func TestStaysP133(t *testing.T) {
	r := rand.New(rand.NewSource(133))
	for range 2000 {
		host, team := r.Intn(hosts), uint32(1+r.Intn(low))
		m := Mach{State: Synced, Crew: team}
		for missed := false; r.Intn(40) != 0; {
			if !missed && r.Intn(2) == 0 {
				m = wantStays(t, host, m, Event{Cycle, highs[r.Intn(len(highs))]}, team)
				missed = true
			} else {
				team = uint32(1 + r.Intn(low))
				m = wantStays(t, host, m, Event{Cycle, team | highs[r.Intn(len(highs))]}, team)
				missed = false
			}
			if foreign := uint32(r.Intn(low + 1)); !wantStronger(foreign, team) {
				m = wantStays(t, host, m, Event{Foreign, foreign | highs[r.Intn(len(highs))]}, team)
			}
			m = wantStays(t, host, m, Event{Power, uint32(r.Intn(low + 1))}, team)
		}
	}
}

// A foreign frame between two silent cycles isn't one that the host heard in a cycle of its own.
func TestMissesStayP133(t *testing.T) {
	got, done := Run(2, []Event{{Kind: Power}, {Foreign, 6}, {Kind: Cycle}, {Foreign, 4}, {Kind: Power}, {Kind: Cycle}})
	if want := (Mach{State: Listen}); got[5] != want || done[5] != Leave {
		t.Error(got, done)
	}
}

func TestListIsLeftR3(t *testing.T) {
	l := []Event{{Power, 9}, {Foreign, math.MaxUint32}, {Cycle, 64}, {Cycle, 1 << 31}, {Fail, 5}, {Power, 1}}
	had := slices.Clone(l)
	Run(3, l[:4])
	if !slices.Equal(l, had) {
		t.Error(l)
	}
}

func TestAnswersAreNewR3(t *testing.T) {
	l := []Event{{Kind: Power}, {Foreign, 5}, {Cycle, 7}, {Kind: Fail}}
	want, wantDone := Run(4, l)
	got, done := Run(4, l)
	got, done = got[:cap(got)], done[:cap(done)]
	for i := range got {
		got[i] = Mach{-9, 9, -9, -9}
	}
	for i := range done {
		done[i] = -9
	}
	wantRun(t, 4, l, want, wantDone)
}

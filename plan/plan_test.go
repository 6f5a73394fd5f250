package plan

import (
	"math"
	"math/rand"
	"testing"

	"tocsin/api"
	"tocsin/conf"
)

const maxTime = 1 << 50

// beyond are numbers that are no local times.
var beyond = []int64{math.MinInt64, math.MinInt64 + 1, -maxTime, -2000000, -1990000, -1, maxTime + 1, maxTime + 10000,
	maxTime + 2000000, 1 << 62, math.MaxInt64 - 2000000, math.MaxInt64}

// noNumbers are numbers of no entry among three, nor of a host among four.
var noNumbers = []int{math.MinInt, math.MinInt + 1, -1 << 32, -256, -4, -1, 4, 5, 6, 16, 256, 1 << 32, 1<<32 + 1, math.MaxInt}

// noLengths are lengths of nothing that can be asked for in a cycle of 2000000.
var noLengths = []int64{math.MinInt64, -2000000, -1, 0, 2000001, 4000000, 1 << 32, 1<<32 + 1000, 1 << 62, math.MaxInt64}

// answer is all that the calls tell of one host, wire, entry and local time.
type answer struct {
	cycle, place                      int64
	send, relay, land, wait           int64
	sends, relays, lands, waits, lies bool
	free                              bool
}

func ask(c api.Config, entry, host int, down bool, local, length int64) answer {
	var a answer
	a.cycle, a.place, a.lies = Where(c, local)
	a.send, a.sends = Send(c, entry, local)
	a.relay, a.relays = Relay(c, entry, local)
	a.land, a.lands = Land(c, entry, local)
	a.free = Free(c, host, down, local, length)
	a.wait, a.waits = Wait(c, host, down, local, length)
	return a
}

// model tells the same by stepping through a cycle, nanosecond by nanosecond.
type model struct{ c api.Config }

func (m model) wireTime(e api.Entry) int64 { return 8 * int64(e.Size) }

func (m model) forward(e api.Entry) int64 {
	return e.Phase + m.wireTime(e) + m.c.Delay + 2*m.c.Precision
}

func (m model) begin(local int64) int64 {
	begin := int64(0)
	if local > 16*m.c.Cycle {
		begin = local / m.c.Cycle * m.c.Cycle
	}
	for begin+m.c.Cycle <= local {
		begin += m.c.Cycle
	}
	return begin
}

// taken tells for each place of a cycle whether it is reserved on a wire.
func (m model) taken(host int, down bool) []bool {
	places := make([]bool, m.c.Cycle)
	for _, e := range m.c.Entries {
		from, on := e.Phase, e.From == host
		if down {
			from, on = m.forward(e), e.To>>host&1 == 1
		}
		for place := from; on && place < from+m.wireTime(e); place++ {
			places[place] = true
		}
	}
	return places
}

// run tells for each place how many free ones follow one another from it on, up to a cycle.
func (m model) run(host int, down bool) []int64 {
	places := m.taken(host, down)
	run := make([]int64, m.c.Cycle)
	n := int64(0)
	for place := 2*m.c.Cycle - 1; place >= 0; place-- {
		n = min(n+1, m.c.Cycle)
		if places[place%m.c.Cycle] {
			n = 0
		}
		run[place%m.c.Cycle] = n
	}
	return run
}

// wait goes from time to time.
func (m model) wait(run []int64, local, length int64) (int64, bool) {
	for at := local; at <= local+2*m.c.Cycle; at++ {
		if run[at%m.c.Cycle] >= length {
			return at, true
		}
	}
	return 0, false
}

func (m model) ask(run []int64, entry int, local, length int64) answer {
	a := answer{lies: true, sends: true}
	begin := m.begin(local)
	a.cycle, a.place = begin/m.c.Cycle, local-begin
	e := m.c.Entries[entry]
	for a.send = begin + e.Phase; a.send < local; {
		a.send += m.c.Cycle
	}
	there := begin + e.Phase + m.wireTime(e)
	if local >= there-m.c.Precision && local <= there+m.c.Delay+m.c.Precision {
		a.relay, a.relays = begin+m.forward(e), true
	}
	landed := begin + m.forward(e) + m.wireTime(e)
	if local >= landed-m.c.Precision && local <= landed+m.c.Delay+m.c.Precision {
		a.land, a.lands = a.cycle, true
	}
	a.wait, a.waits = m.wait(run, local, length)
	a.free = a.waits && a.wait == local
	return a
}

// small is a random configuration with a short cycle and at least one entry.
func small(r *rand.Rand) api.Config {
	c := api.Config{Hosts: 2 + r.Intn(5), Cycle: 1100 + r.Int63n(5000), Queue: 1}
	c.Delay, c.Window, c.Precision = r.Int63n(20), r.Int63n(20), r.Int63n(10)
	for range c.Hosts {
		c.Delays = append(c.Delays, []int64{r.Int63n(c.Delay + 1), r.Int63n(c.Delay + 1)})
	}
	for range 1 + r.Intn(40) {
		from := r.Intn(c.Hosts)
		to := r.Uint32() & (1<<c.Hosts - 1) &^ (1 << from)
		phase := conf.Quiet(c) + r.Int63n(max(1, c.Cycle-conf.Quiet(c)-1024))
		if r.Intn(3) == 0 {
			phase = conf.Quiet(c) + 512*r.Int63n(c.Cycle/512)
		}
		with := c
		with.Entries = append(append([]api.Entry{}, c.Entries...), api.Entry{From: from, To: to, Phase: phase, Size: 64 + r.Intn(1+r.Intn(90))})
		if conf.Check(with) == 0 {
			c = with
		}
	}
	if len(c.Entries) == 0 {
		return small(r)
	}
	return c
}

// tight has no times but those on the wires, and its first entry begins with the cycle, which begins at the last local time of all.
func tight() api.Config {
	return api.Config{Hosts: 2, Cycle: 1 << 20, Delays: [][]int64{{0, 0}, {0, 0}}, Queue: 1,
		Entries: []api.Entry{{From: 0, To: 2, Phase: 0, Size: 64}, {From: 0, To: 2, Phase: 1024, Size: 1518}}}
}

// wrongs are configurations that may not be: of each number that conf.Check tells, one.
func wrongs() []api.Config {
	spoil := []func(c *api.Config){
		func(c *api.Config) { c.Hosts = 7 },
		func(c *api.Config) { c.Cycle = 0 },
		func(c *api.Config) { c.Precision = -1 },
		func(c *api.Config) { c.Delays = c.Delays[:3] },
		func(c *api.Config) { c.Entries[1].To = 0 },
		func(c *api.Config) { c.Entries[1].Phase = 6999 },
		func(c *api.Config) { c.Entries[1] = api.Entry{From: 0, To: 2, Phase: 10100, Size: 64} },
		func(c *api.Config) { c.Entries[1].Phase = 10100 },
		func(c *api.Config) { c.Links = []api.Link{{From: 0, To: 2, Gap: 0, Size: 64}} },
		func(c *api.Config) { c.Queue = 0 },
	}
	var l []api.Config
	for _, f := range spoil {
		c := conf.Family(4, 3)
		f(&c)
		l = append(l, c)
	}
	return append(l, api.Config{})
}

func TestExamplesP151(t *testing.T) {
	c := conf.Family(4, 3)
	if k, p, ok := Where(c, 4000123); k != 2 || p != 123 || !ok {
		t.Error("Where", k, p, ok)
	}
	if n, ok := Send(c, 0, 10001); n != 2010000 || !ok {
		t.Error("Send", n, ok)
	}
	if n, ok := Relay(c, 0, 2010500); n != 2013512 || !ok {
		t.Error("Relay", n, ok)
	}
	if n, ok := Land(c, 0, 2014000); n != 1 || !ok {
		t.Error("Land", n, ok)
	}
	if !Free(c, 0, false, 9000, 1000) || Free(c, 0, false, 9000, 1001) {
		t.Error("Free")
	}
	if n, ok := Wait(c, 0, false, 9500, 1000); n != 10512 || !ok {
		t.Error("Wait", n, ok)
	}
}

func TestWhereP151(t *testing.T) {
	c := conf.Family(4, 3)
	for local, want := range map[int64][2]int64{0: {0, 0}, 1: {0, 1}, 1999999: {0, 1999999}, 2000000: {1, 0}, 2000001: {1, 1},
		3999999: {1, 1999999}, maxTime - 1: {562949953, 842623}, maxTime: {562949953, 842624}} {
		if k, p, ok := Where(c, local); k != want[0] || p != want[1] || !ok {
			t.Error(local, k, p, ok)
		}
	}
	c = api.Config{Hosts: 1, Cycle: 1, Delays: [][]int64{{0, 0}}, Queue: 1}
	if k, p, ok := Where(c, maxTime); k != maxTime || p != 0 || !ok {
		t.Error("cycle 1", k, p, ok)
	}
	c.Cycle = 1 << 30
	if k, p, ok := Where(c, maxTime-1); k != 1<<20-1 || p != 1<<30-1 || !ok {
		t.Error("cycle 2^30", k, p, ok)
	}
}

func TestSendEdgesP151(t *testing.T) {
	c := conf.Family(4, 3)
	for local, want := range map[int64]int64{0: 60000, 59999: 60000, 60000: 60000, 60001: 2060000, 1999999: 2060000,
		2000000: 2060000, 2060000: 2060000, 2060001: 4060000} {
		if n, ok := Send(c, 1, local); n != want || !ok {
			t.Error(local, n, ok)
		}
	}
	// What is answered may be later than the last local time that can be asked.
	if n, ok := Send(tight(), 0, maxTime); n != maxTime || !ok {
		t.Error("now", n, ok)
	}
	if n, ok := Send(tight(), 1, maxTime); n != maxTime+1024 || !ok {
		t.Error("later", n, ok)
	}
}

func TestRelayAndLandEdgesP151(t *testing.T) {
	c := conf.Family(4, 3)
	// Entry 2 has 66 bytes, which are 528 nanoseconds on a wire.
	for _, begin := range []int64{0, 2000000, 562949952 * 2000000} {
		for place, want := range map[int64]bool{0: false, 110000: false, 110027: false, 110028: true, 112000: true, 113028: true,
			113029: false, 113528: false, 1999999: false} {
			n, ok := Relay(c, 2, begin+place)
			if ok != want || ok && n != begin+113528 || !ok && n != 0 {
				t.Error("Relay", begin, place, n, ok)
			}
		}
		for place, want := range map[int64]bool{0: false, 113528: false, 113555: false, 113556: true, 115000: true, 116556: true,
			116557: false, 1999999: false} {
			n, ok := Land(c, 2, begin+place)
			if ok != want || ok && n != begin/2000000 || !ok && n != 0 {
				t.Error("Land", begin, place, n, ok)
			}
		}
	}
	for local, want := range map[int64]bool{maxTime - 1: false, maxTime: false, maxTime - 1<<20 + 512: true, maxTime - 1<<20 + 511: false,
		maxTime - 1<<20 + 513: false} {
		if n, ok := Relay(tight(), 0, local); ok != want || ok && n != local {
			t.Error("at once", local, n, ok)
		}
	}
}

func TestFreeEdgesP151(t *testing.T) {
	c := conf.Family(4, 3)
	cases := []struct {
		host          int
		down          bool
		local, length int64
		want          bool
	}{
		{0, false, 9999, 1, true},
		{0, false, 9999, 2, false},
		{0, false, 10000, 1, false},
		{0, false, 10511, 1, false},
		{0, false, 10512, 1, true},
		{0, false, 10512, 1999488, true},
		{0, false, 10512, 1999489, false},
		{0, false, 1999999, 10001, true},
		{0, false, 1999999, 10002, false},
		{0, false, 0, 2000000, false},
		{0, false, 10100, 10, false},
		{3, false, 10000, 2000000, true}, // it sends nothing
		{0, true, 13512, 512, true},      // it sent that itself
		{1, true, 13511, 1, true},
		{1, true, 13511, 2, false},
		{1, true, 14023, 1, false},
		{1, true, 14024, 1, true},
		{1, true, 14024, 113528 - 14024, true}, // up to what entry 2 brings it
		{1, true, 14024, 113529 - 14024, false},
		{3, true, 63519, 1, true},
		{3, true, 63520, 1, false},
		{3, true, 64039, 1, false},
		{3, true, 64040, 1, true},
	}
	for _, k := range cases {
		for _, begin := range []int64{0, 2000000, 562949952 * 2000000} {
			if got := Free(c, k.host, k.down, begin+k.local, k.length); got != k.want {
				t.Error(k, begin, got)
			}
		}
	}
}

// What lies behind the last local time is reserved as what lies before it.
func TestBehindTheLastTimeP151(t *testing.T) {
	c := tight()
	if !Free(c, 0, false, maxTime-10, 10) || Free(c, 0, false, maxTime-10, 11) || Free(c, 0, false, maxTime, 1) {
		t.Error("up")
	}
	if !Free(c, 1, true, maxTime, 512) || Free(c, 1, true, maxTime, 513) {
		t.Error("down")
	}
	for length, want := range map[int64]int64{1: maxTime + 512, 512: maxTime + 512, 513: maxTime + 1024 + 12144} {
		if n, ok := Wait(c, 0, false, maxTime, length); n != want || !ok {
			t.Error("wait", length, n, ok)
		}
	}
}

func TestWaitEdgesP153(t *testing.T) {
	c := conf.Family(4, 3)
	gap := int64(2000000 - 512)
	for _, local := range []int64{0, 9999, 10000, 10001, 10511, 10513, 1999999} {
		want := int64(10512)
		if local > want {
			want += 2000000
		}
		if n, ok := Wait(c, 0, false, local, gap); n != want || !ok {
			t.Error(local, n, ok)
		}
		if n, ok := Wait(c, 0, false, local, gap+1); n != 0 || ok {
			t.Error("never", local, n, ok)
		}
		if n, ok := Wait(c, 3, false, local, 2000000); n != local || !ok {
			t.Error("at once", local, n, ok)
		}
	}
	if n, ok := Wait(c, 1, true, 13000, 512); n != 13000 || !ok {
		t.Error("before", n, ok)
	}
	if n, ok := Wait(c, 1, true, 13000, 513); n != 14024 || !ok {
		t.Error("behind", n, ok)
	}
	if n, ok := Wait(c, 3, true, 10000, 100000); n != 114056 || !ok {
		t.Error("behind all", n, ok)
	}
}

func TestWrongArgumentsP151(t *testing.T) {
	c := conf.Family(4, 3)
	for _, local := range beyond {
		for entry := range 3 {
			for _, down := range []bool{false, true} {
				if got := ask(c, entry, 3, down, local, 1); got != (answer{}) {
					t.Error(local, entry, got)
				}
			}
		}
	}
	for i, wrong := range wrongs() {
		if i < 10 && conf.Check(wrong) != i+1 {
			t.Fatal("another wrong", i+1, conf.Check(wrong))
		}
		for _, local := range []int64{0, 10000, 10500, 11000, 15000, maxTime} {
			if got := ask(wrong, 0, 0, local == 0, local, 1); got != (answer{}) {
				t.Error(i+1, local, got)
			}
		}
	}
	for _, n := range append(noNumbers, 3) {
		for _, local := range []int64{0, 10000, 11000, 15000} {
			got := ask(c, n, 0, false, local, 1)
			if got.sends || got.relays || got.lands || got.send != 0 || got.relay != 0 || got.land != 0 {
				t.Error("entry", n, local, got)
			}
		}
	}
	for _, down := range []bool{false, true} {
		for _, n := range noNumbers {
			if got := ask(c, 0, n, down, 0, 1); got.free || got.waits || got.wait != 0 {
				t.Error("host", n, got)
			}
		}
		for _, length := range noLengths {
			if got := ask(c, 0, 3, down, 500000, length); got.free || got.waits || got.wait != 0 {
				t.Error("length", length, got)
			}
		}
	}
	if n, ok := Send(conf.Family(1, 3), 0, 0); n != 0 || ok {
		t.Error("no entries", n, ok)
	}
}

func TestAllPlacesP151(t *testing.T) {
	r := rand.New(rand.NewSource(1))
	for range 15 {
		c := small(r)
		m := model{c}
		host, down := r.Intn(c.Hosts), r.Intn(2) == 0
		run := m.run(host, down)
		for local := range 2*c.Cycle + 1 {
			entry, length := r.Intn(len(c.Entries)), 1+r.Int63n(c.Cycle)
			if r.Intn(2) == 0 {
				length = 1 + r.Int63n(600)
			}
			if got, want := ask(c, entry, host, down, local, length), m.ask(run, entry, local, length); got != want {
				t.Fatal(c, entry, host, down, local, length, got, want)
			}
		}
	}
}

func TestRandomTimesP151(t *testing.T) {
	r := rand.New(rand.NewSource(2))
	for range 1000 {
		c := small(r)
		m := model{c}
		host, down := r.Intn(c.Hosts), r.Intn(2) == 0
		run := m.run(host, down)
		for range 6 {
			local := []int64{r.Int63n(maxTime + 1), maxTime - r.Int63n(3*c.Cycle), r.Int63n(3 * c.Cycle)}[r.Intn(3)]
			entry, length := r.Intn(len(c.Entries)), 1+r.Int63n(c.Cycle)
			if got, want := ask(c, entry, host, down, local, length), m.ask(run, entry, local, length); got != want {
				t.Fatal(c, entry, host, down, local, length, got, want)
			}
		}
	}
}

func TestByTheCycleP152(t *testing.T) {
	r := rand.New(rand.NewSource(3))
	for range 1000 {
		c := small(r)
		entry, host, down := r.Intn(len(c.Entries)), r.Intn(c.Hosts), r.Intn(2) == 0
		local, length := r.Int63n(maxTime-c.Cycle+1), 1+r.Int63n(c.Cycle)
		want := ask(c, entry, host, down, local, length)
		want.cycle++
		want.send += c.Cycle
		if want.relays {
			want.relay += c.Cycle
		}
		if want.lands {
			want.land++
		}
		if want.waits {
			want.wait += c.Cycle
		}
		if got := ask(c, entry, host, down, local+c.Cycle, length); got != want {
			t.Fatal(c, entry, host, down, local, length, got, want)
		}
	}
}

// A length that fits nowhere sooner is found free when it was waited for, and what doesn't wait was free at once.
func TestWaitIsFreeP153(t *testing.T) {
	r := rand.New(rand.NewSource(4))
	never := 0
	for range 1000 {
		c := small(r)
		host, down := r.Intn(c.Hosts), r.Intn(2) == 0
		local, length := r.Int63n(maxTime-2*c.Cycle), 1+r.Int63n(c.Cycle)
		at, ok := Wait(c, host, down, local, length)
		if !ok {
			never++
			continue
		}
		if at < local || at > local+2*c.Cycle || !Free(c, host, down, at, length) {
			t.Fatal(c, host, down, local, length, at)
		}
		if Free(c, host, down, local, length) != (at == local) {
			t.Fatal("waits", c, host, down, local, length, at)
		}
		if at > local && Free(c, host, down, at-1, length) {
			t.Fatal("too long", c, host, down, local, length, at)
		}
	}
	if never == 0 || never == 1000 {
		t.Error("one side alone was seen", never)
	}
}

// The most entries that may be, one behind the other, leave gaps in which just what fits goes.
func TestFullScheduleP151P153(t *testing.T) {
	c := api.Config{Hosts: 2, Cycle: 40000, Delays: [][]int64{{0, 0}, {0, 0}}, Queue: 1}
	for i := range 16 {
		c.Entries = append(c.Entries, api.Entry{From: 0, To: 2, Phase: int64(2000*i + 10*i), Size: 64})
	}
	if conf.Check(c) != 0 {
		t.Fatal(conf.Check(c))
	}
	m := model{c}
	for _, down := range []bool{false, true} {
		host := 0
		if down {
			host = 1
		}
		run := m.run(host, down)
		for local := int64(0); local < 80000; local += 41 {
			for _, length := range []int64{1, 1497, 1498, 1499, 9337, 9338, 9339, 40000} {
				if got, want := ask(c, 15, host, down, local, length), m.ask(run, 15, local, length); got != want {
					t.Fatal(host, down, local, length, got, want)
				}
			}
		}
	}
}

func TestLeavesConfigR3(t *testing.T) {
	c := conf.Family(6, 16)
	was := conf.Copy(c)
	spare := api.Entry{From: 9, To: 77, Phase: -5, Size: 3}
	c.Entries = append(c.Entries, spare)[:16]
	for local := int64(0); local < 4000000; local += 4999 {
		first := ask(c, 3, 2, local%2 == 0, local, 1000)
		if ask(c, 3, 2, local%2 == 0, local, 1000) != first {
			t.Fatal("twice", local)
		}
	}
	if !conf.Equal(c, was) || c.Entries[:17][16] != spare {
		t.Error("changed", c)
	}
}

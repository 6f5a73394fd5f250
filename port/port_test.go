package port

import (
	"math"
	"math/rand"
	"slices"
	"strings"
	"testing"

	"tocsin/api"
)

// noMosts are limits that no port can have.
var noMosts = []int{math.MinInt, math.MinInt + 1, -1 << 32, -64, -1, 0, 65, 66, 128, 1 << 16, 1 << 32, 1<<32 + 1, math.MaxInt}

// model is a port in the chapter's words: all that wait stand in one list, in the order of their coming.
type model struct {
	most, lost int
	waiting    []api.Data
}

func right(d api.Data) bool {
	return d.Class >= 1 && d.Class <= 3 && d.Link >= 0 && d.Link <= 255 && d.Number >= 0 && d.Number <= 1<<31-1 &&
		d.Size >= 64 && d.Size <= 1518 && len(d.Payload) <= d.Size-14
}

func (m *model) offer(d api.Data) api.Errno {
	if !right(d) || d.Class == 1 {
		return 1
	}
	if len(m.waiting) == m.most {
		m.lost++
		return 6
	}
	m.waiting = append(m.waiting, d)
	return 0
}

// place is where the next one stands, and -1 if there is none.
func (m *model) place() int {
	for _, class := range []int{2, 3} {
		for i, d := range m.waiting {
			if d.Class == class {
				return i
			}
		}
	}
	return -1
}

func (m *model) peek() (api.Data, bool) {
	if i := m.place(); i >= 0 {
		return m.waiting[i], true
	}
	return api.Data{}, false
}

func (m *model) take() (api.Data, bool) {
	d, ok := m.peek()
	if ok {
		i := m.place()
		m.waiting = append(append([]api.Data{}, m.waiting[:i]...), m.waiting[i+1:]...)
	}
	return d, ok
}

func (m *model) clear() []api.Data {
	var all []api.Data
	for d, ok := m.take(); ok; d, ok = m.take() {
		all = append(all, d)
	}
	return all
}

func made(t *testing.T, most int) *Port {
	t.Helper()
	p, e := New(most)
	if p == nil || e != api.OK {
		t.Fatal(most, p, e)
	}
	return p
}

func one(class, number int) api.Data { return api.Data{Class: class, Number: number, Size: 64} }

// full is a port in which as many frames wait as may.
func full(t *testing.T, most int) *Port {
	t.Helper()
	p := made(t, most)
	for n := range most {
		if e := p.Offer(one(2+n%2, n)); e != api.OK {
			t.Fatal(most, n, e)
		}
	}
	return p
}

// same holds a port against its model; twice, as what is asked there changes nothing.
func same(t *testing.T, p *Port, m *model) {
	t.Helper()
	for range 2 {
		got, ok := p.Peek()
		want, wanted := m.peek()
		if got != want || ok != wanted {
			t.Fatal("peek", m, got, ok)
		}
		if p.Len() != len(m.waiting) || p.Lost() != m.lost {
			t.Fatal("len, lost", m, p.Len(), p.Lost())
		}
	}
}

func offer(t *testing.T, p *Port, m *model, d api.Data) {
	t.Helper()
	if got, want := p.Offer(d), m.offer(d); got != want {
		t.Fatal("offer", m, d, got, want)
	}
	same(t, p, m)
}

func take(t *testing.T, p *Port, m *model) {
	t.Helper()
	got, ok := p.Take()
	want, wanted := m.take()
	if got != want || ok != wanted {
		t.Fatal("take", m, got, ok, want)
	}
	same(t, p, m)
}

func clearAll(t *testing.T, p *Port, m *model) {
	t.Helper()
	if got, want := p.Clear(), m.clear(); !slices.Equal(got, want) {
		t.Fatal("clear", m, got, want)
	}
	same(t, p, m)
}

func TestExamplesP161(t *testing.T) {
	p := made(t, 2)
	if p.Offer(one(api.Effort, 1)) != api.OK || p.Offer(one(api.Rated, 2)) != api.OK || p.Offer(one(api.Rated, 3)) != api.ErrFull {
		t.Error(p)
	}
	for _, want := range []api.Data{one(api.Rated, 2), one(api.Effort, 1)} {
		if d, ok := p.Take(); d != want || !ok {
			t.Error(want, d, ok)
		}
	}
	if d, ok := p.Take(); d != (api.Data{}) || ok {
		t.Error(d, ok)
	}
	if p.Lost() != 1 {
		t.Error(p.Lost())
	}
}

func TestNewEdgesP161(t *testing.T) {
	for most := 1; most <= 64; most++ {
		p := made(t, most)
		same(t, p, &model{most: most})
		if l := p.Clear(); len(l) != 0 {
			t.Error(most, l)
		}
	}
	for _, most := range noMosts {
		if p, e := New(most); p != nil || e != api.ErrArg {
			t.Error(most, p, e)
		}
	}
}

// A port takes in as many as it may, of one class or of both, and the newest is lost.
func TestFullP161(t *testing.T) {
	for most := 1; most <= 64; most++ {
		for _, classes := range [][2]int{{2, 2}, {3, 3}, {2, 3}} {
			p, m := made(t, most), &model{most: most}
			for n := range most + 3 {
				offer(t, p, m, one(classes[n%2], n))
			}
			if p.Len() != most || p.Lost() != 3 {
				t.Fatal(most, classes, p.Len(), p.Lost())
			}
			take(t, p, m)
			offer(t, p, m, one(classes[1], 100))
			offer(t, p, m, one(classes[0], 101))
			clearAll(t, p, m)
			if p.Lost() != 4 {
				t.Fatal("clear forgets", most, p.Lost())
			}
			offer(t, p, m, one(classes[1], 102))
			take(t, p, m)
			take(t, p, m)
		}
	}
}

// frames are some that may wait, at the edges of each field.
func frames() []api.Data {
	var all []api.Data
	for _, class := range []int{2, 3} {
		for _, size := range []int{64, 65, 1517, 1518} {
			for _, length := range []int{0, 1, size - 15, size - 14} {
				d := api.Data{Class: class, Size: size, Payload: strings.Repeat("\xff", length)}
				all = append(all, d)
				d.Link, d.Number = 255, 1<<31-1
				all = append(all, d)
			}
		}
	}
	return all
}

// noFrames are some that may not wait, each for one thing alone.
func noFrames() []api.Data {
	var all []api.Data
	for _, class := range []int{math.MinInt, -1, 0, 1, 4, 5, 256, 257, 258, 1<<32 + 2, math.MaxInt} {
		all = append(all, api.Data{Class: class, Size: 64})
	}
	for _, class := range []int{2, 3} {
		for _, link := range []int{math.MinInt, -256, -1, 256, 257, 1 << 32, math.MaxInt} {
			all = append(all, api.Data{Class: class, Link: link, Size: 64})
		}
		for _, number := range []int{math.MinInt, -1 << 31, -1, 1 << 31, 1<<32 - 1, 1 << 32, math.MaxInt} {
			all = append(all, api.Data{Class: class, Number: number, Size: 64})
		}
		for _, size := range []int{math.MinInt, -64, 0, 14, 63, 1519, 1<<32 + 64, math.MaxInt} {
			all = append(all, api.Data{Class: class, Size: size})
		}
		for _, size := range []int{64, 65, 1517, 1518} {
			all = append(all, api.Data{Class: class, Size: size, Payload: strings.Repeat("x", size-13)})
		}
		all = append(all, api.Data{Class: class, Size: 64, Payload: strings.Repeat("x", 1<<16)})
	}
	return all
}

func TestOfferEdgesP161(t *testing.T) {
	for _, d := range frames() {
		p := made(t, 1)
		if e := p.Offer(d); e != api.OK || p.Len() != 1 {
			t.Error(d, e)
		}
		if got, ok := p.Peek(); got != d || !ok {
			t.Error("peek", d, got, ok)
		}
		if got, ok := p.Take(); got != d || !ok {
			t.Error("take", d, got, ok)
		}
	}
	for _, d := range noFrames() {
		p := made(t, 1)
		if e := p.Offer(d); e != api.ErrArg || p.Len() != 0 || p.Lost() != 0 {
			t.Error(d, e, p.Len(), p.Lost())
		}
	}
}

// A frame that may not wait is refused as such by a full port too, and isn't lost.
func TestArgAheadOfFullP161R6(t *testing.T) {
	for _, most := range []int{1, 2, 64} {
		p := full(t, most)
		for _, d := range noFrames() {
			if e := p.Offer(d); e != api.ErrArg || p.Lost() != 0 || p.Len() != most {
				t.Error(most, d, e, p.Lost(), p.Len())
			}
		}
		for i, d := range frames() {
			if e := p.Offer(d); e != api.ErrFull || p.Lost() != i+1 || p.Len() != most {
				t.Error(most, d, e, p.Lost(), p.Len())
			}
		}
		for i, d := range p.Clear() {
			if rated := (most + 1) / 2; i < rated && d != one(2, 2*i) || i >= rated && d != one(3, 2*(i-rated)+1) {
				t.Error("another waits", most, i, d)
			}
		}
	}
}

// do makes one of the calls that a script is of.
func do(t *testing.T, p *Port, m *model, call, number int) {
	t.Helper()
	switch call {
	case 0:
		offer(t, p, m, one(api.Rated, number))
	case 1:
		offer(t, p, m, one(api.Effort, number))
	case 2:
		take(t, p, m)
	case 3:
		clearAll(t, p, m)
	case 4:
		offer(t, p, m, one(api.Timed, number))
	}
}

func TestAllSmallScriptsP161(t *testing.T) {
	const calls, length = 5, 6
	scripts := 1
	for range length {
		scripts *= calls
	}
	for most := 1; most <= 3; most++ {
		for script := range scripts {
			p, m := made(t, most), &model{most: most}
			for i, left := 0, script; i < length; i++ {
				do(t, p, m, left%calls, i)
				left /= calls
			}
		}
	}
}

// some is a random frame; few of them may not wait.
func some(r *rand.Rand, number int) api.Data {
	d := api.Data{Class: 2 + r.Intn(2), Link: r.Intn(256), Number: number, Size: 64 + r.Intn(20)}
	d.Payload = strings.Repeat(string(rune('a'+r.Intn(26))), r.Intn(d.Size-13))
	switch r.Intn(30) {
	case 0:
		d.Class = r.Intn(6) - 1
	case 1:
		d.Link = 256
	case 2:
		d.Size = len(d.Payload) + 13
	}
	return d
}

func TestRandomScriptsP161(t *testing.T) {
	r := rand.New(rand.NewSource(1))
	for range 300 {
		most := 1 + r.Intn(64)
		p, m := made(t, most), &model{most: most}
		// How often something is taken out goes up and down, so that the port is full at times, and empty at others.
		out := r.Intn(10)
		for n := range 400 {
			if n%50 == 0 {
				out = r.Intn(10)
			}
			switch {
			case r.Intn(200) == 0:
				clearAll(t, p, m)
			case r.Intn(10) < out:
				take(t, p, m)
			default:
				offer(t, p, m, some(r, n))
			}
		}
	}
}

// Whatever was offered and not refused comes out once, in the order of its class, or waits.
func TestNothingIsLostP162(t *testing.T) {
	r := rand.New(rand.NewSource(2))
	for range 200 {
		p := made(t, 1+r.Intn(64))
		var in, out [4][]api.Data
		taken, refused := 0, 0
		lay := func(d api.Data) { out[d.Class] = append(out[d.Class], d) }
		for n := range 500 {
			switch k := r.Intn(100); {
			case k < 1:
				for _, d := range p.Clear() {
					lay(d)
				}
			case k < 45:
				if d, ok := p.Take(); ok {
					lay(d)
				}
			default:
				d := some(r, n)
				switch p.Offer(d) {
				case api.OK:
					in[d.Class] = append(in[d.Class], d)
					taken++
				case api.ErrFull:
					refused++
				}
			}
			if came := len(out[2]) + len(out[3]); taken != came+p.Len() || p.Lost() != refused {
				t.Fatal(taken, came, p.Len(), p.Lost(), refused)
			}
		}
		for d, ok := p.Take(); ok; d, ok = p.Take() {
			lay(d)
		}
		for class := range in {
			if !slices.Equal(in[class], out[class]) {
				t.Fatal(class, in[class], out[class])
			}
		}
	}
}

// Frames that are alike are as many as were taken in.
func TestAlikeP162(t *testing.T) {
	p := made(t, 64)
	for range 20 {
		p.Offer(one(3, 7))
		p.Offer(one(2, 7))
	}
	for i := range 40 {
		want := one(2+i/20, 7)
		if d, ok := p.Take(); d != want || !ok || p.Len() != 39-i {
			t.Fatal(i, d, ok, p.Len())
		}
	}
}

func TestNilP163(t *testing.T) {
	var p *Port
	for range 2 {
		for _, d := range append(frames(), noFrames()...) {
			if e := p.Offer(d); e != api.ErrArg {
				t.Error(d, e)
			}
		}
		if d, ok := p.Peek(); d != (api.Data{}) || ok {
			t.Error("peek", d, ok)
		}
		if d, ok := p.Take(); d != (api.Data{}) || ok {
			t.Error("take", d, ok)
		}
		if l := p.Clear(); len(l) != 0 {
			t.Error("clear", l)
		}
		if p.Len() != 0 || p.Lost() != 0 {
			t.Error(p.Len(), p.Lost())
		}
	}
}

// What Clear answered is no memory of the port's, nor of an answer of another time.
func TestClearIsNewMemoryR3(t *testing.T) {
	p := full(t, 6)
	first := p.Clear()
	was := slices.Clone(first)
	for n := range 6 {
		p.Offer(one(2+n%2, 100+n))
	}
	if !slices.Equal(first, was) {
		t.Fatal("the port writes there", first)
	}
	for i := range first[:cap(first)] {
		first[:cap(first)][i] = one(3, 999)
	}
	second := p.Clear()
	for i, number := range []int{100, 102, 104, 101, 103, 105} {
		if second[i].Number != number {
			t.Fatal("the port reads there", second)
		}
	}
}

// Ports know nothing of one another.
func TestPortsApartR2(t *testing.T) {
	p, q := full(t, 3), made(t, 3)
	if q.Len() != 0 || q.Lost() != 0 || p.Offer(one(2, 9)) != api.ErrFull || q.Lost() != 0 {
		t.Error(q.Len(), q.Lost())
	}
	if _, ok := q.Take(); ok || p.Len() != 3 || p.Lost() != 1 {
		t.Error(ok, p.Len(), p.Lost())
	}
}

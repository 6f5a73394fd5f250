package queue

import (
	"math"
	"math/rand"
	"reflect"
	"slices"
	"testing"

	"tocsin/api"
)

const least, greatest = math.MinInt64, math.MaxInt64

// due is a thing of a model, with what it is ordered by.
type due struct {
	key   [3]int64 // time, rank, node
	thing int
}

// model is a queue as the chapter words it: a list in which things stand in their order.
type model struct {
	most  int
	stand []due
}

func newModel(most int) *model {
	if most < 0 {
		most = 0
	}
	if most > 65536 {
		most = 65536
	}
	return &model{most: most}
}

func (m *model) push(d due) bool {
	if len(m.stand) >= m.most {
		return false
	}
	at := 0
	for at < len(m.stand) && !ahead(d.key, m.stand[at].key) {
		at++
	}
	m.stand = slices.Insert(m.stand, at, d)
	return true
}

// ahead is whether what has key a stands ahead of what has key b and came first.
func ahead(a, b [3]int64) bool {
	for i := range a {
		if a[i] != b[i] {
			return a[i] < b[i]
		}
	}
	return false
}

func (m *model) peek() (int, int64, bool) {
	if len(m.stand) == 0 {
		return 0, 0, false
	}
	return m.stand[0].thing, m.stand[0].key[0], true
}

func (m *model) pop() (int, int64, bool) {
	thing, time, ok := m.peek()
	if ok {
		m.stand = m.stand[1:]
	}
	return thing, time, ok
}

func (m *model) drop(keep func(int) bool) int {
	var kept []due
	for _, d := range m.stand {
		if keep(d.thing) {
			kept = append(kept, d)
		}
	}
	n := len(m.stand) - len(kept)
	m.stand = kept
	return n
}

func (m *model) do(op Op) Told {
	var t Told
	switch op.Kind {
	case 1:
		t.OK = m.push(due{[3]int64{op.Time, op.Rank, op.Node}, op.Thing})
	case 2:
		t.Thing, t.Time, t.OK = m.pop()
	case 3:
		t.Thing, t.Time, t.OK = m.peek()
	case 4:
		t.N = len(m.stand)
	case 5:
		t.N = m.drop(func(thing int) bool { return thing >= op.Thing })
	}
	return t
}

// push is for things that must be taken in.
func push[T any](t *testing.T, q *Queue[T], time, rank, node int64, thing T) {
	t.Helper()
	if e := q.Push(time, rank, node, thing); e != api.OK {
		t.Fatalf("Push(%d, %d, %d, %v): %v", time, rank, node, thing, e)
	}
}

// popAll pops till there is none, and holds each against what Peek said ahead of it.
func popAll[T comparable](t *testing.T, q *Queue[T]) (things []T, times []int64) {
	t.Helper()
	for n := q.Len(); n > 0; n-- {
		first, due, there := q.Peek()
		thing, time, ok := q.Pop()
		if !ok || !there || thing != first || time != due || q.Len() != n-1 {
			t.Fatalf("Peek: %v, %d, %v; Pop: %v, %d, %v; then Len %d of %d", first, due, there, thing, time, ok, q.Len(), n)
		}
		things, times = append(things, thing), append(times, time)
	}
	if thing, time, ok := q.Pop(); ok || time != 0 || thing != *new(T) {
		t.Fatalf("Pop of none: %v, %d, %v", thing, time, ok)
	}
	return things, times
}

func wantPops[T comparable](t *testing.T, q *Queue[T], want ...T) {
	t.Helper()
	if got, _ := popAll(t, q); !slices.Equal(got, want) {
		t.Errorf("Pops: %v, not %v", got, want)
	}
}

func example(t *testing.T, most int) *Queue[string] {
	t.Helper()
	q := New[string](most)
	push(t, q, 5, 0, 0, "a")
	push(t, q, 3, 9, 0, "b")
	push(t, q, 3, 1, 7, "c")
	push(t, q, 3, 1, 2, "d")
	push(t, q, 3, 1, 2, "e")
	return q
}

func TestExampleP51(t *testing.T) {
	things, times := popAll(t, example(t, 9))
	if !slices.Equal(things, []string{"d", "e", "c", "b", "a"}) || !slices.Equal(times, []int64{3, 3, 3, 3, 5}) {
		t.Error(things, times)
	}
}

func TestMostP51(t *testing.T) {
	for _, c := range []struct{ most, holds int }{
		{math.MinInt, 0}, {-1, 0}, {0, 0}, {1, 1}, {2, 2}, {100, 100},
		{65535, 65535}, {65536, 65536}, {65537, 65536}, {math.MaxInt, 65536},
	} {
		q := New[int](c.most)
		if q == nil || q.Len() != 0 {
			t.Fatalf("New(%d): none, or not empty", c.most)
		}
		for i := range c.holds {
			if e := q.Push(int64(-i), 0, 0, i); e != api.OK {
				t.Fatalf("New(%d): push %d: %v", c.most, i, e)
			}
		}
		for range 2 {
			if e := q.Push(least, 0, 0, -1); e != api.ErrFull || q.Len() != c.holds {
				t.Errorf("New(%d): beyond %d: %v, then Len %d", c.most, c.holds, e, q.Len())
			}
		}
		if thing, time, ok := q.Peek(); c.holds > 0 && (thing != c.holds-1 || time != int64(1-c.holds) || !ok) {
			t.Errorf("New(%d), full: Peek: %d, %d, %v", c.most, thing, time, ok)
		}
	}
}

func TestFullTakesAgainP51(t *testing.T) {
	q := example(t, 5)
	if e := q.Push(0, 0, 0, "f"); e != api.ErrFull {
		t.Error(e)
	}
	if thing, _, _ := q.Pop(); thing != "d" {
		t.Error(thing)
	}
	push(t, q, 5, 0, 0, "g")
	if e := q.Push(0, 0, 0, "h"); e != api.ErrFull {
		t.Error(e)
	}
	if n := q.Drop(func(s string) bool { return s != "a" && s != "e" }); n != 2 {
		t.Error(n)
	}
	push(t, q, 5, 0, 0, "i")
	push(t, q, 3, 9, 0, "j")
	if e := q.Push(0, 0, 0, "k"); e != api.ErrFull {
		t.Error(e)
	}
	wantPops(t, q, "c", "b", "j", "g", "i")
}

func TestNoneP51(t *testing.T) {
	for _, q := range []*Queue[string]{New[string](0), New[string](3)} {
		for range 2 {
			thing, time, ok := q.Peek()
			if thing != "" || time != 0 || ok {
				t.Error("Peek", thing, time, ok)
			}
			thing, time, ok = q.Pop()
			if thing != "" || time != 0 || ok || q.Len() != 0 {
				t.Error("Pop", thing, time, ok, q.Len())
			}
			if n := q.Drop(func(string) bool { t.Error("asked of none"); return false }); n != 0 {
				t.Error("Drop", n)
			}
		}
	}
}

// edges are times, ranks and nodes whose differences don't fit 64 bits, and such as lie side by side.
var edges = []int64{least, least + 1, -1 << 32, -2, -1, 0, 1, 2, 1 << 32, greatest - 1, greatest}

func TestEdgesP52(t *testing.T) {
	// One list holds every time, rank and node of the edges in order; pushed shuffled, it must come out again so.
	var order []due
	for _, time := range edges {
		for _, rank := range edges {
			for _, node := range edges {
				order = append(order, due{[3]int64{time, rank, node}, len(order)})
			}
		}
	}
	r := rand.New(rand.NewSource(1))
	for range 5 {
		q := New[int](len(order))
		for _, i := range r.Perm(len(order)) {
			push(t, q, order[i].key[0], order[i].key[1], order[i].key[2], order[i].thing)
		}
		things, times := popAll(t, q)
		if len(things) != len(order) {
			t.Fatalf("%d of %d were popped", len(things), len(order))
		}
		for i, thing := range things {
			if thing != i || times[i] != order[i].key[0] {
				t.Fatalf("pop %d: %d at %d, not %v", i, thing, times[i], order[i])
			}
		}
	}
}

func TestSameStandAsTheyCameP52(t *testing.T) {
	const most = 1000
	q := New[int](most)
	for i := range most {
		push(t, q, 7, -7, 7, i)
	}
	// Those pushed when others were taken out come behind all that stayed.
	for i := range most / 2 {
		if thing, time, ok := q.Pop(); thing != i || time != 7 || !ok {
			t.Fatal(thing, time, ok)
		}
		push(t, q, 7, -7, 7, most+i)
	}
	for i := range most {
		if thing, _, _ := q.Pop(); thing != most/2+i {
			t.Fatalf("pop %d: %d", i, thing)
		}
	}
}

func TestOrderP52(t *testing.T) {
	r := rand.New(rand.NewSource(2))
	for range 300 {
		n := r.Intn(200)
		keys := make([][3]int64, n)
		q := New[int](n)
		for i := range keys {
			for j := range keys[i] {
				keys[i][j] = r.Int63n(4) - 2
			}
			push(t, q, keys[i][0], keys[i][1], keys[i][2], i)
		}
		things, _ := popAll(t, q)
		seen := map[int]bool{}
		for i, thing := range things {
			if seen[thing] {
				t.Fatalf("%d was popped twice", thing)
			}
			seen[thing] = true
			if i == 0 {
				continue
			}
			was, is := keys[things[i-1]], keys[thing]
			if ahead(is, was) || is == was && thing < things[i-1] {
				t.Fatalf("%v (%d) came behind %v (%d)", is, thing, was, things[i-1])
			}
		}
		if len(seen) != n {
			t.Fatalf("%d of %d were popped", len(seen), n)
		}
	}
}

func TestDropP51(t *testing.T) {
	for _, c := range []struct {
		kept string
		n    int
		rest []string
	}{
		{"abcde", 0, []string{"d", "e", "c", "b", "a"}},
		{"", 5, nil},
		{"abde", 1, []string{"d", "e", "b", "a"}},
		{"abce", 1, []string{"e", "c", "b", "a"}},
		{"bcde", 1, []string{"d", "e", "c", "b"}},
		{"ad", 3, []string{"d", "a"}},
		{"b", 4, []string{"b"}},
	} {
		q := example(t, 9)
		asked := ""
		n := q.Drop(func(s string) bool {
			asked += s
			return slices.Contains([]byte(c.kept), s[0])
		})
		if n != c.n || asked != "decba" || q.Len() != 5-c.n {
			t.Errorf("Drop but %q: %d, asked of %q, then Len %d", c.kept, n, asked, q.Len())
		}
		wantPops(t, q, c.rest...)
	}
}

func TestDropNilP51(t *testing.T) {
	q := example(t, 9)
	if n := q.Drop(nil); n != 0 || q.Len() != 5 {
		t.Error(n, q.Len())
	}
	wantPops(t, q, "d", "e", "c", "b", "a")
}

// Two of the same may be there, and each stands for itself.
func TestDropTwinsP51(t *testing.T) {
	q := New[int](9)
	for range 4 {
		push(t, q, 1, 1, 1, 5)
	}
	asked := 0
	n := q.Drop(func(int) bool { asked++; return asked%2 == 0 })
	if n != 2 || asked != 4 || q.Len() != 2 {
		t.Error(n, asked, q.Len())
	}
	wantPops(t, q, 5, 5)
}

func TestDropAsksInOrderP51(t *testing.T) {
	r := rand.New(rand.NewSource(3))
	for range 300 {
		n := r.Intn(100)
		q, m := New[int](n), newModel(n)
		for i := range n {
			d := due{[3]int64{r.Int63n(5), r.Int63n(3), r.Int63n(3)}, i}
			push(t, q, d.key[0], d.key[1], d.key[2], i)
			m.push(d)
		}
		keep := func(thing int) bool { return thing%3 != 0 }
		var asked, want []int
		got := q.Drop(func(thing int) bool { asked = append(asked, thing); return keep(thing) })
		n = m.drop(func(thing int) bool { want = append(want, thing); return keep(thing) })
		if got != n || !slices.Equal(asked, want) {
			t.Fatalf("%d, not %d; asked of %v, not %v", got, n, asked, want)
		}
		things, _ := popAll(t, q)
		for i, thing := range things {
			if thing != m.stand[i].thing {
				t.Fatalf("left: %v, not %v", things, m.stand)
			}
		}
	}
}

// A keep that calls the queue itself is asked of those that were there, and the calls answer as at any other time.
func TestDropWithinR1(t *testing.T) {
	q := example(t, 6)
	asked := ""
	n := q.Drop(func(s string) bool {
		asked += s
		switch s {
		case "d": // is itself popped, though it is not to be kept
			if thing, time, ok := q.Pop(); thing != "d" || time != 3 || !ok || q.Len() != 4 {
				t.Error(thing, time, ok, q.Len())
			}
		case "e":
			push(t, q, 4, 0, 0, "new")
			push(t, q, 4, 0, 0, "newer")
			if e := q.Push(4, 0, 0, "newest"); e != api.ErrFull {
				t.Error(e)
			}
		case "c":
			if n := q.Drop(func(s string) bool { return s != "b" && s != "new" }); n != 2 {
				t.Error(n)
			}
		}
		return s == "b" || s == "c"
	})
	if n != 2 || asked != "decba" { // e and a
		t.Error(n, asked)
	}
	wantPops(t, q, "c", "newer")
}

func TestNilP53(t *testing.T) {
	var q *Queue[string]
	for range 2 {
		if e := q.Push(1, 2, 3, "a"); e != api.ErrArg {
			t.Error("Push", e)
		}
		if thing, time, ok := q.Pop(); thing != "" || time != 0 || ok {
			t.Error("Pop", thing, time, ok)
		}
		if thing, time, ok := q.Peek(); thing != "" || time != 0 || ok {
			t.Error("Peek", thing, time, ok)
		}
		if n := q.Len(); n != 0 {
			t.Error("Len", n)
		}
		if n := q.Drop(func(string) bool { t.Error("asked of none"); return false }); n != 0 {
			t.Error("Drop", n)
		}
		if n := q.Drop(nil); n != 0 {
			t.Error("Drop(nil)", n)
		}
	}
}

// Things may be of any type, such as can't be compared and nil too.
func TestAnyTypeP51(t *testing.T) {
	funcs := New[func() int](2)
	push(t, funcs, 2, 0, 0, func() int { return 2 })
	push(t, funcs, 1, 0, 0, nil)
	if f, time, ok := funcs.Pop(); f != nil || time != 1 || !ok {
		t.Error(time, ok)
	}
	if f, time, ok := funcs.Pop(); f == nil || f() != 2 || time != 2 || !ok {
		t.Error(time, ok)
	}
	anys := New[any](3)
	push[any](t, anys, 3, 0, 0, nil)
	push[any](t, anys, 2, 0, 0, []int{1})
	push[any](t, anys, 1, 0, 0, math.NaN())
	if n := anys.Drop(func(x any) bool { _, list := x.([]int); return !list }); n != 1 {
		t.Error(n)
	}
	if x, _, ok := anys.Pop(); !ok || x == nil || x == x {
		t.Error(x, ok)
	}
	if x, time, ok := anys.Pop(); x != nil || time != 3 || !ok {
		t.Error(x, time, ok)
	}
	empties := New[struct{}](2)
	push(t, empties, 1, 0, 0, struct{}{})
	push(t, empties, 0, 0, 0, struct{}{})
	if _, time, ok := empties.Pop(); time != 0 || !ok || empties.Len() != 1 {
		t.Error(time, ok)
	}
}

func TestPlayP51(t *testing.T) {
	ops := []Op{
		{Kind: 2}, {Kind: 3}, {Kind: 4}, {Kind: 5, Thing: greatest},
		{Kind: 1, Time: 4, Thing: 9}, {Kind: 1, Time: 2, Thing: 1}, {Kind: 1, Thing: 3},
		{Kind: 3, Time: 1, Rank: 1, Node: 1, Thing: 1}, {Kind: 5, Thing: 5}, {Kind: 4, Thing: 4},
		{Kind: 1, Time: 4, Rank: -1, Node: 5, Thing: -9}, {Kind: 3}, {Kind: 5, Thing: -9}, {Kind: 2}, {Kind: 2}, {Kind: 2},
		{Kind: 0}, {Kind: 6, Thing: 1}, {Kind: -1}, {Kind: math.MinInt}, {Kind: math.MaxInt},
	}
	want := []Told{
		{}, {}, {}, {},
		{OK: true}, {OK: true}, {},
		{Thing: 1, Time: 2, OK: true}, {N: 1}, {N: 1},
		{OK: true}, {Thing: -9, Time: 4, OK: true}, {}, {Thing: -9, Time: 4, OK: true}, {Thing: 9, Time: 4, OK: true}, {},
		{}, {}, {}, {}, {},
	}
	if got := Play(2, ops); !reflect.DeepEqual(got, want) {
		t.Errorf("%v\nnot\n%v", got, want)
	}
}

func TestPlayMostP51(t *testing.T) {
	ops := make([]Op, 65538)
	for i := range ops {
		ops[i] = Op{Kind: 1, Time: int64(i), Thing: i}
	}
	for _, c := range []struct{ most, holds int }{
		{math.MinInt, 0}, {-1, 0}, {0, 0}, {1, 1}, {65535, 65535}, {65536, 65536}, {65537, 65536}, {math.MaxInt, 65536},
	} {
		for i, told := range Play(c.most, ops) {
			if told != (Told{OK: i < c.holds}) {
				t.Fatalf("most %d, push %d: %v", c.most, i, told)
			}
		}
	}
}

func TestPlayNothingR4(t *testing.T) {
	if got := Play(3, nil); len(got) != 0 {
		t.Error(got)
	}
	if got := Play(3, []Op{}); len(got) != 0 {
		t.Error(got)
	}
}

func randomOp(r *rand.Rand, keys []int64) Op {
	kinds := []int{1, 1, 1, 1, 2, 2, 2, 3, 4, 5, 0, 6}
	op := Op{
		Kind: kinds[r.Intn(len(kinds))],
		Time: keys[r.Intn(len(keys))], Rank: keys[r.Intn(len(keys))], Node: keys[r.Intn(len(keys))],
		Thing: r.Intn(100),
	}
	if op.Kind == 5 { // seldom many, or there would never be a full queue
		op.Thing = r.Intn(r.Intn(50) + 1)
	}
	return op
}

func TestScriptsP51(t *testing.T) {
	r := rand.New(rand.NewSource(4))
	for round := range 2000 {
		keys := edges
		if round%2 == 0 {
			keys = []int64{0, 1, 2}
		}
		most := r.Intn(40) - 2
		ops := make([]Op, r.Intn(300))
		for i := range ops {
			ops[i] = randomOp(r, keys)
		}
		m := newModel(most)
		for i, told := range Play(most, ops) {
			if want := m.do(ops[i]); told != want {
				t.Fatalf("most %d, op %d of %v: %v, not %v", most, i, ops[:i+1], told, want)
			}
		}
	}
}

func TestDependsOnArgumentsAloneR2(t *testing.T) {
	r := rand.New(rand.NewSource(5))
	ops := make([]Op, 2000)
	for i := range ops {
		ops[i] = randomOp(r, edges)
	}
	first := Play(30, ops)
	if again := Play(30, ops); !slices.Equal(first, again) {
		t.Error("the same script was told otherwise")
	}
	// Two queues side by side don't know of each other.
	one, two := New[int](3), New[int](3)
	push(t, one, 1, 0, 0, 1)
	push(t, two, 0, 0, 0, 2)
	wantPops(t, one, 1)
	wantPops(t, two, 2)
}

func TestOpsAreLeftR3(t *testing.T) {
	room := []Op{{Kind: 1, Time: 3, Thing: 3}, {Kind: 1, Time: 2, Thing: 2}, {Kind: 5, Thing: 3}, {Kind: 2}, {Kind: 4, Thing: 77}}
	was := slices.Clone(room)
	first := Play(9, room[:4])
	if !slices.Equal(room, was) {
		t.Errorf("ops were changed to %v", room)
	}
	want := slices.Clone(first)
	second := Play(9, room[:4])
	clear(second[:cap(second)])
	clear(room)
	if !slices.Equal(first, want) {
		t.Error("an answer shares memory")
	}
}

// What was taken out isn't kept, in spare room either (LANGUAGE.md's rule 8).
func TestNothingIsKeptOfWhatWentP51(t *testing.T) {
	q := New[*int](100)
	for i := range 100 {
		push(t, q, int64(i%7), 0, 0, &i)
	}
	for range 30 {
		q.Pop()
	}
	q.Drop(func(p *int) bool { return *p%2 == 0 })
	for i, left := range q.items[:cap(q.items)] {
		if i < q.Len() == (left.thing == nil) {
			t.Fatalf("slot %d of %d: %v", i, q.Len(), left)
		}
	}
}

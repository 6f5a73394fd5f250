package fuse

import (
	"errors"
	"math"
	"math/rand"
	"runtime"
	"slices"
	"strings"
	"testing"

	"tocsin/api"
)

const oneNaN = 0x7FF8000000000001

// mosts are limits, and how many panics a fuse of each bears.
var mosts = []struct{ given, counts int }{
	{math.MinInt, 0}, {-1 << 32, 0}, {-4096, 0}, {-2, 0}, {-1, 0}, {0, 0}, {1, 1}, {2, 2}, {3, 3}, {63, 63}, {4095, 4095},
	{4096, 4096}, {4097, 4096}, {1 << 16, 4096}, {1 << 32, 4096}, {1<<32 + 1, 4096}, {math.MaxInt, 4096},
}

type (
	namedText  string
	wordyText  string
	wordyValue struct{ words string }
	mute       struct{}
	muteValue  struct{}
	stringer   struct{}
	changing   struct{ words string }
	mixed      struct {
		error
		other int
	}
)

func (w wordyText) Error() string  { return "text " + string(w) }
func (w wordyValue) Error() string { return w.words }
func (m *mute) Error() string      { panic("mute") }
func (m muteValue) Error() string  { panic(errors.New("mute")) }
func (s stringer) String() string  { return "string" }
func (c *changing) Error() string  { return c.words }

// panics is each kind of panic, and what is told of it.
func panics() map[string]struct {
	work func()
	told string
} {
	var none []int
	var table map[string]int
	var place *api.Data
	var still *mute
	var words *wordyValue
	var thing any = 7
	zero := len(none)
	type row = struct {
		work func()
		told string
	}
	says := func(value any, told string) row { return row{func() { panic(value) }, told} }
	return map[string]row{
		"text":             says("a", "a"),
		"empty text":       says("", ""),
		"text as an error": says("error x", "error x"),
		"text as other":    says("other", "other"),
		"bytes":            says("\x00\xff\n", "\x00\xff\n"),
		"long":             says(strings.Repeat("long", 1<<14), strings.Repeat("long", 1<<14)),
		"error":            says(errors.New("y"), "error y"),
		"empty error":      says(errors.New(""), "error "),
		"errno":            says(api.ErrForm, "error errno 2"),
		"errno ok":         says(api.OK, "error errno 0"),
		"error of text":    says(wordyText("z"), "error text z"),
		"error of struct":  says(wordyValue{"w"}, "error w"),
		"error behind":     says(&wordyValue{"w"}, "error w"),
		"error within":     says(mixed{errors.New("m"), 1}, "error m"),
		"joined":           says(errors.Join(errors.New("1"), errors.New("2")), "error 1\n2"),
		"named text":       says(namedText("a"), "other"),
		"stringer":         says(stringer{}, "other"),
		"number":           says(7, "other"),
		"nought":           says(0, "other"),
		"float":            says(math.NaN(), "other"),
		"bool":             says(false, "other"),
		"rune":             says('a', "other"),
		"list of bytes":    says([]byte("a"), "other"),
		"list of texts":    says([]string{"a"}, "other"),
		"nil list":         says(none, "other"),
		"nil map":          says(table, "other"),
		"nil place":        says(place, "other"),
		"function":         says(func() {}, "other"),
		"text behind":      says(new(string), "other"),
		"place in a list":  {func() { none[3] = 1 }, "error runtime error: index out of range [3] with length 0"},
		"piece of a list":  {func() { _ = none[1:zero] }, "error runtime error: slice bounds out of range [1:0]"},
		"key of nil":       {func() { table["a"] = 1 }, "error assignment to entry in nil map"},
		"field of nil":     {func() { place.Size = 1 }, "error runtime error: invalid memory address or nil pointer dereference"},
		"over nought":      {func() { zero = 1 / zero }, "error runtime error: integer divide by zero"},
		"assertion":        {func() { _ = thing.(string) }, "error interface conversion: interface {} is int, not string"},
		"nil":              {func() { panic(nil) }, "error " + new(runtime.PanicNilError).Error()},
		"panic behind one": {func() { defer func() { panic("late") }(); panic("early") }, "late"},
		"once more":        {func() { defer func() { panic(recover()) }(); panic("again") }, "again"},
		"mute error":       says(&mute{}, "other"),
		"mute nil error":   says(still, "other"),
		"mute value":       says(muteValue{}, "other"),
		"nil error":        says(words, "other"),
	}
}

// state is what a fuse tells of itself.
type state struct {
	caught int
	blown  bool
	last   string
}

func tells(f *Fuse) state { return state{f.Caught(), f.Blown(), f.Last()} }

// same holds a fuse against what it must tell; twice, as asking changes nothing.
func same(t *testing.T, f *Fuse, want state, about ...any) {
	t.Helper()
	for range 2 {
		if got := tells(f); got != want {
			t.Fatal(got, want, about)
		}
	}
}

func TestPanicsP171(t *testing.T) {
	for name, p := range panics() {
		f := New(5)
		for n := 1; n <= 6; n++ {
			if f.Do(p.work) {
				t.Error(name, "came back")
			}
			same(t, f, state{n, n > 5, p.told}, name)
		}
	}
}

// The last panic is told, whatever came ahead of it and behind it.
func TestLastP171(t *testing.T) {
	all := panics()
	for first, p := range all {
		for second, q := range all {
			f := New(1)
			f.Do(p.work)
			f.Do(func() {})
			f.Do(nil)
			same(t, f, state{1, false, p.told}, first)
			f.Do(q.work)
			same(t, f, state{2, true, q.told}, first, second)
			f.Do(p.work)
			same(t, f, state{2, true, q.told}, first, second)
			f.Mend()
			same(t, f, state{}, first, second)
		}
	}
}

func TestWorkThatComesBackP171(t *testing.T) {
	f, runs := New(0), 0
	for n := 1; n <= 100; n++ {
		if !f.Do(func() { runs++ }) || runs != n {
			t.Fatal(n, runs)
		}
		same(t, f, state{})
	}
	if !f.Do(func() { defer func() { _ = recover() }(); panic("own") }) {
		t.Error("a panic that the work caught itself is none")
	}
	same(t, f, state{})
}

func TestNoWorkP171(t *testing.T) {
	f := New(0)
	for range 10 {
		if f.Do(nil) {
			t.Error("no work was done")
		}
		same(t, f, state{})
	}
}

// What a work did ahead of its panic is done.
func TestHalfDoneP171(t *testing.T) {
	f, steps := New(0), 0
	if f.Do(func() { steps++; sayA(); steps++ }) || steps != 1 {
		t.Error(steps)
	}
}

// A fuse bears just as many panics as its limit says, which has bounds of its own.
func TestMostP171P172(t *testing.T) {
	for _, most := range mosts {
		f := New(most.given)
		same(t, f, state{}, most)
		for n := 1; n <= most.counts; n++ {
			f.Do(sayA)
			if f.Blown() || f.Caught() != n {
				t.Fatal(most, n, f.Caught())
			}
		}
		if !f.Do(func() {}) {
			t.Error("blown too soon", most)
		}
		f.Do(sayA)
		same(t, f, state{most.counts + 1, true, "a"}, most)
		for range 3 {
			stays(t, f)
		}
		f.Mend()
		same(t, f, state{}, most)
		for range most.counts + 10 {
			f.Do(sayA)
		}
		same(t, f, state{most.counts + 1, true, "a"}, most)
	}
}

// stays holds that a blown fuse does nothing.
func stays(t *testing.T, f *Fuse) {
	t.Helper()
	was := tells(f)
	ran := false
	for _, work := range []func(){nil, func() { ran = true }, func() { ran = true; panic("more") }} {
		if f.Do(work) || ran {
			t.Fatal("a blown fuse works", was)
		}
		same(t, f, was)
	}
}

func TestMendP171P172(t *testing.T) {
	f := New(2)
	f.Mend()
	same(t, f, state{})
	for range 3 {
		f.Do(sayA)
		f.Do(sayA)
		f.Mend()
		same(t, f, state{})
		f.Do(sayA)
		f.Do(sayA)
		same(t, f, state{2, false, "a"})
		f.Do(func() { panic(1) })
		same(t, f, state{3, true, "other"})
		f.Mend()
		f.Mend()
		same(t, f, state{})
	}
}

// deed is work of many parts: what it does behind the same fuse, and how it ends.
type deed struct {
	parts []deed
	mends bool
	end   string
}

// model is a fuse in the chapter's words.
type model struct {
	most, caught int
	last         string
	told         []state
}

func (m *model) state() state { return state{m.caught, m.caught > m.most, m.last} }

func (m *model) do(d deed) bool {
	if m.caught > m.most {
		return false
	}
	for _, p := range d.parts {
		if m.do(p) {
			m.told = append(m.told, state{last: "done"})
		}
		m.told = append(m.told, m.state())
	}
	if d.mends {
		m.caught, m.last = 0, ""
	}
	if d.end == "" {
		return true
	}
	m.caught++
	m.last = d.end
	return false
}

// work is a deed as a function; what the fuse tells between its parts is laid into told.
func work(f *Fuse, d deed, told *[]state) func() {
	return func() {
		for _, p := range d.parts {
			if f.Do(work(f, p, told)) {
				*told = append(*told, state{last: "done"})
			}
			*told = append(*told, tells(f))
		}
		if d.mends {
			f.Mend()
		}
		if d.end != "" {
			panic(d.end)
		}
	}
}

func someDeed(r *rand.Rand, depth int) deed {
	var d deed
	if r.Intn(2) == 0 {
		d.end = string(rune('a' + r.Intn(26)))
	}
	d.mends = r.Intn(12) == 0
	if depth > 0 {
		for range r.Intn(4) {
			d.parts = append(d.parts, someDeed(r, depth-1))
		}
	}
	return d
}

func TestWorkBehindTheSameFuseP171P172(t *testing.T) {
	r := rand.New(rand.NewSource(1))
	for range 5000 {
		most := r.Intn(6)
		f, m := New(most), &model{most: most}
		var told []state
		for range 6 {
			d := someDeed(r, 3)
			if got, want := f.Do(work(f, d, &told)), m.do(d); got != want {
				t.Fatal(most, d, got, want)
			}
			same(t, f, m.state(), most, d)
		}
		if !slices.Equal(told, m.told) {
			t.Fatal(most, told, m.told)
		}
	}
}

// Works in one another that all panic are all caught, though the fuse is blown by the innermost.
func TestDeepP171(t *testing.T) {
	f := New(0)
	d := deed{end: "0"}
	for range 30 {
		d = deed{parts: []deed{d}, end: "x"}
	}
	var told []state
	f.Do(work(f, d, &told))
	same(t, f, state{31, true, "x"})
}

// A work may use the fuse while it panics; its own panic goes on.
func TestDoWhilePanickingP171(t *testing.T) {
	f := New(3)
	var inner []bool
	done := f.Do(func() {
		defer f.Do(sayA)
		defer func() {
			inner = append(inner, f.Do(func() {}), f.Do(func() { panic("b") }))
			f.Do(func() {
				if recover() != nil {
					t.Error("the outer panic is seen within")
				}
			})
		}()
		panic("c")
	})
	if done || !slices.Equal(inner, []bool{true, false}) {
		t.Error(done, inner)
	}
	same(t, f, state{3, false, "c"})
}

// asking is an error that uses the fuse for its words.
type asking struct {
	f   *Fuse
	ask func(a asking) string
}

func (a asking) Error() string { return a.ask(a) }

func TestErrorsThatUseTheFuseP171(t *testing.T) {
	f := New(4)
	again := func(a asking) string { f.Do(func() { panic(a) }); return "again" }
	f.Do(func() { panic(asking{f, again}) })
	same(t, f, state{5, true, "error again"})
	f.Mend()
	f.Do(func() { panic(asking{f, func(asking) string { f.Do(sayA); return "old" }}) })
	same(t, f, state{2, false, "a"})
	f.Do(func() { panic(asking{f, func(asking) string { f.Mend(); return "mended" }}) })
	same(t, f, state{})
}

// What was told of a panic stays, whatever becomes of its value.
func TestLastIsKeptR2R3(t *testing.T) {
	f, err := New(1), &changing{"then"}
	f.Do(func() { panic(err) })
	err.words = "now"
	same(t, f, state{1, false, "error then"})
}

func TestFusesApartR2(t *testing.T) {
	f, g := New(1), New(1)
	f.Do(func() { g.Do(sayA); panic("b") })
	same(t, f, state{1, false, "b"})
	same(t, g, state{1, false, "a"})
	g.Do(func() { f.Mend(); panic("c") })
	same(t, f, state{})
	same(t, g, state{2, true, "c"})
	f.Mend()
	stays(t, g)
}

func TestNilP173(t *testing.T) {
	var f *Fuse
	ran := false
	for range 2 {
		for _, work := range []func(){nil, func() { ran = true }, func() { ran = true; panic("a") }} {
			if f.Do(work) || ran {
				t.Error("a nil fuse works")
			}
		}
		f.Mend()
		same(t, f, state{0, true, ""})
	}
}

func TestSafeP171(t *testing.T) {
	for _, x := range []float64{0, math.Copysign(0, -1), 1, -1, math.SmallestNonzeroFloat64, -math.MaxFloat64, math.MaxFloat64, math.Inf(1), math.Inf(-1), math.Pi} {
		if got := Safe(func() float64 { return x }); math.Float64bits(got) != math.Float64bits(x) {
			t.Error(x, got)
		}
	}
	for _, bits := range []uint64{0x7FF8000000000001, 0x7FF8000000000000, 0x7FF0000000000001, 0xFFF8000000000000, 0xFFFFFFFFFFFFFFFF, 0x7FFFFFFFFFFFFFFF} {
		if got := Safe(func() float64 { return math.Float64frombits(bits) }); math.Float64bits(got) != oneNaN {
			t.Errorf("%x %x", bits, math.Float64bits(got))
		}
	}
	if got := Safe(nil); math.Float64bits(got) != oneNaN {
		t.Error(got)
	}
	for name, p := range panics() {
		if got := Safe(func() float64 { p.work(); return 1 }); math.Float64bits(got) != oneNaN {
			t.Error(name, got)
		}
	}
}

// One that is safe may be within another, and within a fuse.
func TestSafeWithinP171(t *testing.T) {
	f := New(1)
	x := Safe(func() float64 {
		f.Do(func() {
			Safe(func() float64 { panic("inner") })
			panic("outer")
		})
		return 2
	})
	if x != 2 {
		t.Error(x)
	}
	same(t, f, state{1, false, "outer"})
	if x := Safe(func() float64 { return Safe(nil) }); math.Float64bits(x) != oneNaN {
		t.Error(x)
	}
}

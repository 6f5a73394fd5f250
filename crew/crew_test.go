package crew

import (
	"math"
	"math/rand"
	"slices"
	"strconv"
	"strings"
	"testing"

	"tocsin/api"
)

const hosts = 6

// set is a crew as the chapter words it: the hosts that are in it, each told by its place.
type set [hosts]bool

func setOf(c uint32) set {
	var s set
	for host := range s {
		s[host] = c/power(host)%2 == 1
	}
	return s
}

func power(host int) uint32 {
	p := uint32(1)
	for range host {
		p *= 2
	}
	return p
}

func (s set) number() uint32 {
	n := uint32(0)
	for host, in := range s {
		if in {
			n += power(host)
		}
	}
	return n
}

func (s set) members() []int {
	var l []int
	for host, in := range s {
		if in {
			l = append(l, host)
		}
	}
	return l
}

func (s set) text() string {
	if s == (set{}) {
		return "-"
	}
	var l []string
	for _, host := range s.members() {
		l = append(l, strconv.Itoa(host))
	}
	return strings.Join(l, ",")
}

// highs are bits beyond the hosts'.
var highs = []uint32{0, 1 << 6, 1 << 7, 1 << 31, 0xAAAAAA80, 0xFFFFFFC0}

// each calls f with each crew, without and with bits beyond the hosts'.
func each(f func(c uint32, s set)) {
	for low := range uint32(1 << hosts) {
		for _, high := range highs {
			f(low|high, setOf(low))
		}
	}
}

// outside are numbers that are no hosts, those among them whose last bits look like one's.
var outside = []int{
	math.MinInt, math.MinInt + 1, math.MinInt32, -64, -32, -6, -1,
	6, 7, 8, 9, 31, 32, 33, 37, 63, 64, 65, 255, 256, 1 << 32, 1<<32 + 3, math.MaxInt32, math.MaxInt,
}

func TestExamplesP71(t *testing.T) {
	if c := Of([]int{0, 2, 9, 2}); c != 5 {
		t.Error("Of", c)
	}
	if l := Members(5); !slices.Equal(l, []int{0, 2}) {
		t.Error("Members", l)
	}
	if n := First(0); n != -1 {
		t.Error("First", n)
	}
	if s := Print(5); s != "0,2" {
		t.Error("Print", s)
	}
	for _, s := range []string{"2,0", "0,", "", "6"} {
		if c, e := Parse(s); c != 0 || e != api.ErrForm {
			t.Errorf("Parse(%q) = %d, %v", s, c, e)
		}
	}
	if c, e := Parse("-"); c != 0 || e != api.OK {
		t.Error("Parse", c, e)
	}
	if c := Common([]uint32{5, 4, 6}); c != 4 {
		t.Error("Common", c)
	}
	if Has(255, 7) {
		t.Error("Has")
	}
}

func TestEachCrewP71(t *testing.T) {
	each(func(c uint32, s set) {
		l := s.members()
		if got := Members(c); !slices.Equal(got, l) {
			t.Errorf("Members(%#x) = %v, want %v", c, got, l)
		}
		if n := Count(c); n != len(l) {
			t.Errorf("Count(%#x) = %d, want %d", c, n, len(l))
		}
		first := -1
		if len(l) > 0 {
			first = l[0]
		}
		if n := First(c); n != first {
			t.Errorf("First(%#x) = %d, want %d", c, n, first)
		}
		for host, in := range s {
			if Has(c, host) != in {
				t.Errorf("Has(%#x, %d) = %v", c, host, !in)
			}
		}
		for _, host := range outside {
			if Has(c, host) {
				t.Errorf("Has(%#x, %d)", c, host)
			}
		}
		if text := Print(c); text != s.text() {
			t.Errorf("Print(%#x) = %q, want %q", c, text, s.text())
		}
	})
}

func TestOfP71(t *testing.T) {
	if c := Of(nil); c != 0 {
		t.Error("Of none:", c)
	}
	for _, host := range outside {
		if c := Of([]int{host}); c != 0 {
			t.Errorf("Of(%d) = %#x", host, c)
		}
		if c := Of([]int{5, host, 0, host}); c != 33 {
			t.Errorf("Of(5, %d, 0, %d) = %#x", host, host, c)
		}
	}
	r := rand.New(rand.NewSource(71))
	for range 5000 {
		var l []int
		var s set
		for range r.Intn(12) {
			host := r.Intn(14) - 4
			if r.Intn(4) == 0 {
				host = outside[r.Intn(len(outside))]
			}
			l = append(l, host)
			if host >= 0 && host < hosts {
				s[host] = true
			}
		}
		if c := Of(l); c != s.number() {
			t.Fatalf("Of(%v) = %#x, want %#x", l, c, s.number())
		}
	}
}

func TestWithinP71(t *testing.T) {
	each(func(a uint32, s set) {
		each(func(b uint32, o set) {
			want := true
			for host, in := range s {
				if in && !o[host] {
					want = false
				}
			}
			if Within(a, b) != want {
				t.Fatalf("Within(%#x, %#x) = %v", a, b, !want)
			}
		})
	})
}

func wantCommon(l []uint32) uint32 {
	var counts [hosts]int
	for _, c := range l {
		for _, host := range setOf(c).members() {
			counts[host]++
		}
	}
	var s set
	for host, n := range counts {
		s[host] = n+n > len(l)
	}
	return s.number()
}

func TestCommonP71(t *testing.T) {
	for _, c := range []struct {
		l    []uint32
		want uint32
	}{
		{nil, 0}, {[]uint32{}, 0}, {[]uint32{0}, 0}, {[]uint32{63}, 63}, {[]uint32{0xFFFFFFFF}, 63}, {[]uint32{64}, 0}, {[]uint32{64, 192, 128}, 0},
		{[]uint32{1, 2}, 0}, {[]uint32{3, 2}, 2}, {[]uint32{3, 3}, 3}, {[]uint32{3, 3, 0, 0}, 0}, {[]uint32{3, 3, 1, 0}, 1},
		{[]uint32{32, 32, 0}, 32}, {[]uint32{32, 0, 0}, 0}, {[]uint32{1, 2, 4}, 0}, {[]uint32{3, 5, 6}, 7}, {[]uint32{67, 5, 1 << 31, 6 + 1<<31, 5}, 5},
	} {
		if got := Common(c.l); got != c.want {
			t.Errorf("Common(%v) = %#x, want %#x", c.l, got, c.want)
		}
	}
	for low := range uint32(1 << hosts) {
		for other := range uint32(1 << hosts) {
			if c := Common([]uint32{low, other}); c != wantCommon([]uint32{low, other}) {
				t.Fatalf("Common(%d, %d) = %d", low, other, c)
			}
			for third := range uint32(1 << hosts) {
				l := []uint32{low, other, third}
				if c := Common(l); c != wantCommon(l) {
					t.Fatalf("Common(%v) = %d", l, c)
				}
			}
		}
	}
	r := rand.New(rand.NewSource(72))
	for range 5000 {
		l := make([]uint32, r.Intn(20))
		for i := range l {
			l[i] = r.Uint32() >> r.Intn(32)
		}
		if c := Common(l); c != wantCommon(l) {
			t.Fatalf("Common(%v) = %#x, want %#x", l, c, wantCommon(l))
		}
	}
}

// Lists of even and odd length, in which a host is in one crew more than, just, or one less than half.
func TestCommonHalvesP71(t *testing.T) {
	for n := range 200 {
		for with := max(0, n/2-2); with <= min(n, n/2+2); with++ {
			for host := range hosts {
				l := make([]uint32, n)
				for i := range with {
					l[i*n/max(with, 1)] = power(host) | 1<<31
				}
				want := uint32(0)
				if 2*with > n {
					want = power(host)
				}
				if c := Common(l); c != want {
					t.Fatalf("host %d in %d of %d: %#x", host, with, n, c)
				}
			}
		}
	}
}

// texts has the text of each crew.
func texts() map[string]uint32 {
	m := map[string]uint32{}
	for c := range uint32(1 << hosts) {
		m[setOf(c).text()] = c
	}
	return m
}

func wantParse(t *testing.T, right map[string]uint32, s string) {
	t.Helper()
	want, ok := right[s]
	wantError := api.OK
	if !ok {
		wantError = api.ErrForm
	}
	if c, e := Parse(s); c != want || e != wantError {
		t.Fatalf("Parse(%q) = %d, %v, want %d, %v", s, c, e, want, wantError)
	}
}

func TestParseP71(t *testing.T) {
	right := texts()
	if len(right) != 64 {
		t.Fatal(len(right))
	}
	for _, s := range []string{
		"", "-", "--", "-,", ",-", "-0", "0-", "-1", "0,-", "-,0", ",", ",,", ",0", "0,", ",0,", "0,,1", "01", "00", "0,0", "0,1,1", "1,0", "5,4,3,2,1,0",
		"6", "7", "8", "9", "10", "0,6", "5,6", "+0", "+1", " 0", "0 ", "0, 1", "0 ,1", "0\n", "0\r\n", "\t0", "0.0", "0;1", "0x1", "1e0", "1_0",
		"\x00", "0\x00", "0,1\x00", "\xff", "0\xff", "0,\xb1", "٠", "0,١", "０", "−", "–", "nil", "all", "0,1,2,3,4,5,6", "0,1,2,3,4,5,", "0,1,2,3,4,5,5",
	} {
		wantParse(t, right, s)
	}
	for s := range right {
		wantParse(t, right, s)
		for i := range len(s) + 1 {
			if i < len(s) {
				wantParse(t, right, s[:i])
				wantParse(t, right, s[i:])
				wantParse(t, right, s[:i]+s[i+1:])
			}
			for b := range 256 {
				wantParse(t, right, s[:i]+string([]byte{byte(b)})+s[i:])
				if i < len(s) {
					wantParse(t, right, s[:i]+string([]byte{byte(b)})+s[i+1:])
				}
			}
		}
	}
}

func TestParseShortTextsP71(t *testing.T) {
	const signs = "0123456789,-+ ."
	right := texts()
	all := []string{""}
	for from, length := 0, 0; length < 4; length++ {
		to := len(all)
		for _, s := range all[from:to] {
			for i := range signs {
				all = append(all, s+signs[i:i+1])
			}
		}
		from = to
	}
	for _, s := range all {
		wantParse(t, right, s)
	}
}

func TestParseLongTextsP71(t *testing.T) {
	for _, part := range []string{"-", "0", ",", "0,", "0,1,2,3,4,5,", "6", "\x00", "\xff"} {
		s := strings.Repeat(part, 1<<20)
		if c, e := Parse(s); c != 0 || e != api.ErrForm {
			t.Errorf("many of %q: %d, %v", part, c, e)
		}
	}
}

func TestThereAndBackP72(t *testing.T) {
	each(func(c uint32, s set) {
		if got := Of(Members(c)); got != s.number() {
			t.Errorf("Of(Members(%#x)) = %#x", c, got)
		}
		if got, e := Parse(Print(c)); got != s.number() || e != api.OK {
			t.Errorf("Parse(Print(%#x)) = %#x, %v", c, got, e)
		}
	})
	for s := range texts() {
		if c, _ := Parse(s); Print(c) != s {
			t.Errorf("Print of Parse(%q) is %q", s, Print(c))
		}
	}
	r := rand.New(rand.NewSource(73))
	for range 100000 {
		b := make([]byte, r.Intn(12))
		for i := range b {
			b[i] = "012345,,,,-6"[r.Intn(12)]
		}
		if c, e := Parse(string(b)); e == api.OK && Print(c) != string(b) {
			t.Fatalf("Print of Parse(%q) is %q", b, Print(c))
		}
	}
}

func TestOfMostIsWithinCommonP73(t *testing.T) {
	r := rand.New(rand.NewSource(74))
	for range 20000 {
		l := make([]uint32, 1+r.Intn(20))
		for i := range l {
			l[i] = r.Uint32() >> r.Intn(32)
		}
		c := r.Uint32() >> r.Intn(32)
		for _, i := range r.Perm(len(l))[:len(l)/2+1] {
			l[i] = c
		}
		common := Common(l)
		if !Within(c, common) {
			t.Fatalf("%#x isn't within Common(%v) = %#x", c, l, common)
		}
		if Count(c) > 0 && c&common == 0 {
			t.Fatalf("%#x has none in common with %#x", c, common)
		}
	}
}

func TestListsAreLeftR3(t *testing.T) {
	numbers := []int{5, 0, -1, 99, 5, 7, 7}
	crews := []uint32{5, 1 << 31, 4, 6, 9, 9}
	hadNumbers, hadCrews := slices.Clone(numbers), slices.Clone(crews)
	Of(numbers[:5])
	Common(crews[:4])
	if !slices.Equal(numbers, hadNumbers) || !slices.Equal(crews, hadCrews) {
		t.Error(numbers, crews)
	}
}

func TestAnswersAreNewR3(t *testing.T) {
	for c := range uint32(1 << hosts) {
		one, two := Members(c), Members(c)
		one = one[:cap(one)]
		for i := range one {
			one[i] = -9
		}
		if want := setOf(c).members(); !slices.Equal(two, want) || !slices.Equal(Members(c), want) {
			t.Errorf("Members(%d) share memory", c)
		}
	}
}
